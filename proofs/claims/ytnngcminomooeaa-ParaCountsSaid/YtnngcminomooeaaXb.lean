import Derived.Test.YtnngcminomooeaaOf
import Derived.Test.YtnngcminomooeaaOi
import Derived.Test.YtnngcminomooeaaOb
/-
  A text's blocks, as lists: no program in sight. (A byte for each line: blocks are that string's runs.)
-/
set_option linter.unusedVariables false
set_option linter.unusedSimpArgs false
set_option maxRecDepth 100000
namespace Go.Proofs.Ytnngcminomooeaa.Po
open Go Go.RowKit Go.Proofs.Ytnngcminomooeaa.Vk Go.Proofs.Ytnngcminomooeaa.Str Go.Proofs.Ytnngcminomooeaa.Ln Go.Proofs.Ytnngcminomooeaa.Cl Go.Proofs.Ytnngcminomooeaa.Wo

/-- Is a line empty? -/
def em (ls : List ByteArray) (i : Nat) : Bool := decide ((lineAt ls i).size = 0)
theorem em_empty (ls : List ByteArray) (i : Nat) : (lineAt ls i).toList.isEmpty = em ls i := by
  unfold em
  by_cases h : (lineAt ls i).size = 0
  · rw [empty_of_zero h, decide_eq_true h]
  · rw [empty_of_pos (by omega), decide_eq_false h]
/-- A byte for each line, a blank for an empty one. -/
def eb (ls : List ByteArray) : ByteArray := ⟨(ls.map fun s => if s.size = 0 then (32 : UInt8) else 97).toArray⟩
theorem eb_size (ls : List ByteArray) : (eb ls).size = ls.length := by
  show ((ls.map fun s => if s.size = 0 then (32 : UInt8) else 97).toArray).size = ls.length
  simp
theorem eb_kl {ls : List ByteArray} {i : Nat} (h : i < ls.length) : kl (eb ls) true i = if em ls i = true then 0 else 1 := by
  have e : (eb ls).data.toList.getD i 0 = if (lineAt ls i).size = 0 then (32 : UInt8) else 97 := by
    show (((ls.map fun s => if s.size = 0 then (32 : UInt8) else 97).toArray).toList).getD i 0 = _
    rw [List.getD_eq_getElem?_getD, List.getElem?_map, List.getElem?_eq_getElem h, lineAt_get h]; rfl
  unfold kl em
  rw [e]
  by_cases hz : (lineAt ls i).size = 0
  · rw [if_pos hz, if_pos (decide_eq_true hz)]; decide
  · rw [if_neg hz, if_neg (by simpa using hz)]; decide
theorem eb_eq {ls : List ByteArray} {i j : Nat} (hi : i < ls.length) (hj : j < ls.length) : kl (eb ls) true i = kl (eb ls) true j ↔ em ls i = em ls j := by
  rw [eb_kl hi, eb_kl hj]
  cases em ls i <;> cases em ls j <;> simp
/-- A text's blocks. -/
def bls (ls : List ByteArray) : List RN := rs (eb ls) true
theorem bls_rg (ls : List ByteArray) : Rg (eb ls) true ls.length (bls ls) := by
  have := rs_rg (s := eb ls) (b := true)
  rw [eb_size] at this
  exact this
theorem bls_len (ls : List ByteArray) : (bls ls).length ≤ ls.length := (bls_rg ls).len

/-- n blocks from the K-th on. -/
def inB (L : List RN) (K n : Nat) : Option RN := if K + n ≤ L.length then some ((L.getD K (0, 0)).1, (L.getD (K + n - 1) (0, 0)).2) else none
/-- 2n blocks from the K-th on, or from the one before. -/
def arB (L : List RN) (e : Bool) (K n : Nat) : Option RN :=
  if K + 2 * n ≤ L.length then some ((L.getD K (0, 0)).1, (L.getD (K + 2 * n - 1) (0, 0)).2)
  else if K + 2 * n = L.length + 1 ∧ e = false ∧ 0 < K then some ((L.getD (K - 1) (0, 0)).1, (L.getD (K + 2 * n - 2) (0, 0)).2) else none
end Go.Proofs.Ytnngcminomooeaa.Po
/-
  Package paraobj: where a block ends (finish); is a place a byte's (inside).
-/
set_option linter.unusedVariables false
set_option linter.unusedSimpArgs false
set_option maxRecDepth 100000
namespace Go.Proofs.Ytnngcminomooeaa.Po
open Go Go.RowKit Go.Proofs.Ytnngcminomooeaa.Vk Go.Proofs.Ytnngcminomooeaa.Str Go.Proofs.Ytnngcminomooeaa.Ln Go.Proofs.Ytnngcminomooeaa.Cl Go.Proofs.Ytnngcminomooeaa.Mv Go.Proofs.Ytnngcminomooeaa.Wo
attribute [local go_sem] Oper.semAt_some

set_option maxHeartbeats 2000000 in
theorem finish_any (a : Option Addr) (n c : Nat) (ls : List ByteArray) (f : Nat) (w : World) (h : Ss w a n c ls) (hf : f < n) : Calls Try.prog 24 #[.slice a n c, .int .i64 f] w fun e w' =>
    ∃ t : Nat, e = .returned (.int .i64 t) ∧ Nx (eb ls) true f t ∧ Below w.heap.size w w' := by
  have hlen := h.length
  have hn := h.le63
  obtain ⟨g, o, rfl, hcf, hnc, _⟩ := h.read f (by omega)
  rw [← lineAt_get (ls := ls) (k := f) (by omega)] at hcf
  obtain ⟨K, hK⟩ : ∃ K, K = f + 1 := ⟨_, rfl⟩
  have hw : IntKind.i64.wrap ((f : Int) + 1) = (K : Int) := by rw [IntKind.wrap_i64]; omega
  have HK := Lib.hid hK
  have ef := em_empty ls f
  have b2 : (f : Int) < (n : Int) := by omega
  clear hK
  go_enter Try.func24, Try.ntmps24
  go_wp2
  clear hw
  go_loopw [5] (fun i wr => ∃ k : Nat, i = .int .i64 k ∧ Hid (f < k ∧ k ≤ n ∧ (∀ j, f < j → j < k → kl (eb ls) true j = kl (eb ls) true f) ∧ Below w.heap.size w wr)) (fun i _ => n - (RowKit.intOf i).toNat)
  case atStart => exact ⟨K, rfl, by have := HK.out; omega, by have := HK.out; omega, fun j h1 h2 => by have := HK.out; omega, Below.refl _ _⟩
  case round =>
    obtain ⟨k, rfl, hR⟩ := hrel
    by_cases hkn : k < n
    · have b0 : decide (k < n) = true := decide_eq_true hkn
      obtain ⟨M, hM⟩ : ∃ M, M = k + 1 := ⟨_, rfl⟩
      have hwM : IntKind.i64.wrap ((k : Int) + 1) = (M : Int) := by rw [IntKind.wrap_i64]; omega
      have HM := Lib.hid hM
      have b1 : (k : Int) < (n : Int) := by omega
      have heq := eb_eq (ls := ls) (i := k) (j := f) (by omega) (by omega)
      have ek := em_empty ls k
      obtain ⟨g', o', he, hck, _, _⟩ := h.read k (by omega)
      injection he with he
      injection he with e1 e2
      subst e1 e2
      rw [← lineAt_get (ls := ls) (k := k) (by omega)] at hck
      have f0 := fun z : Gr wr => z.cell (cell_later hR.out.2.2.2 hcf)
      have f1 := fun z : Gr wr => z.cell (cell_later hR.out.2.2.2 hck)
      have HEQ := Lib.hid heq
      generalize em ls k = A at *
      generalize em ls f = B at *
      generalize lineAt ls k = sk at *
      generalize lineAt ls f = sf at *
      by_cases hAB : A = B
      · have e1 : (A == B) = true := by rw [beq_iff_eq]; exact hAB
        have HE := Lib.hid (HEQ.out.2 hAB)
        clear hM hAB heq hck
        go_upto_region 2 with fail
        refine wp_region_grow (by kernel_rfl) (by kernel_rfl) ?_
        repeat (go_big_quiet_step (fail))
        refine wpQuiet_nil ?_
        rintro X5 ⟨⟨_, hX5⟩, rfl⟩
        clear f0 f1
        go_wp2
        go_roundw
        case rel =>
          obtain ⟨h1, h2, h3, h4⟩ := hR.out
          refine ⟨M, rfl, by have := HM.out; omega, by have := HM.out; omega, fun j g1 g2 => ?_, h4.trans (hX5.mono h4.size)⟩
          have := HM.out
          by_cases e : j = k
          · subst e; exact HE.out
          · exact h3 j g1 (by omega)
        case measure => have := HM.out; simp [RowKit.intOf]; omega
      · have e1 : (A == B) = false := by rw [beq_eq_false_iff_ne]; exact hAB
        have HE := Lib.hid (fun e => hAB (HEQ.out.1 e))
        clear hM hAB heq hck
        go_upto_region 2 with fail
        refine wp_region_grow (by kernel_rfl) (by kernel_rfl) ?_
        repeat (go_big_quiet_step (fail))
        refine wpQuiet_nil ?_
        rintro X5 ⟨⟨_, hX5⟩, rfl⟩
        clear f0 f1
        go_wp2
        go_ret
        obtain ⟨h1, h2, h3, h4⟩ := hR.out
        exact ⟨k, rfl, ⟨h1, by rw [eb_size]; omega, h3, .inr HE.out⟩, h4.trans (hX5.mono h4.size)⟩
    · have b0 : decide (k < n) = false := decide_eq_false hkn
      have b1 : decide ((k : Int) < (n : Int)) = false := decide_eq_false (by omega)
      go_upto_region 2 with fail
      refine wp_region_grow (by kernel_rfl) (by kernel_rfl) ?_
      repeat (go_big_quiet_step (fail))
      refine wpQuiet_nil ?_
      rintro X5 ⟨⟨_, hX5⟩, rfl⟩
      go_wp2
      go_ret
      obtain ⟨h1, h2, h3, h4⟩ := hR.out
      exact ⟨k, rfl, ⟨h1, by rw [eb_size]; omega, h3, .inl (by rw [eb_size]; omega)⟩, h4.trans (hX5.mono h4.size)⟩

set_option maxHeartbeats 2000000 in
theorem inside_any (a : Option Addr) (n c' : Nat) (ls : List ByteArray) (l c : Int) (w : World) (h : Ss w a n c' ls) (hs : ∀ s ∈ ls, s.size ≤ 140737488355328) :
    Calls Try.prog 30 #[.slice a n c', .agg #[.int .i64 l, .int .i64 c]] w fun e w' => e = .returned (.bool (decide (On ls l c))) ∧ Below w.heap.size w w' := by
  have hlen := h.length
  obtain ⟨X, hX⟩ : ∃ X, X = w.alloc (.cells #[.int .i64 l, .int .i64 c] 36) := ⟨_, rfl⟩
  have hp : PosAt X w.heap.size l c := by rw [hX]; exact PosAt.new _ _ _
  have hb : Below w.heap.size w X := by rw [hX]; exact (Below.refl _ w).alloc (Nat.le_refl _) _
  have f0 := fun z : Gr X => z.cell hp.c0
  have f1 := fun z : Gr X => z.cell hp.c1
  have HX := Lib.hid hX
  by_cases h0 : 0 < n
  · have hv := on_clamp (ls := ls) (l := l) (c := c) (by omega)
    have he := fun W => Mv.eq_pos (clL ls l) (clC ls l c false) l c W
    rw [hv] at he
    have hcl := fun z : Gr X => clamp_any a n c' ls l c false z.W (SrcV.below h (hb.trans (z.below.mono hb.size))) hs
    generalize (clL ls l : Int) = P at *
    generalize (clC ls l c false : Int) = Q at *
    have b0 : decide (0 < n) = true := decide_eq_true h0
    have b1 : decide ((0 : Int) < (n : Int)) = true := decide_eq_true (by omega)
    generalize decide (On ls l c) = B at *
    clear hv hX hp h
    go_enter Try.func30, Try.ntmps30
    go_upto_region 1 with fail
    rw [← HX.out]
    refine wp_region_grow (by kernel_rfl) (by kernel_rfl) ?_
    repeat (go_big_quiet_step (first | (go_at_call 36; exact Calls.grow_of (hcl _))))
    refine wpQuiet_nil ?_
    rintro V ⟨⟨_, hbV⟩, rfl⟩
    clear f0 f1 hcl he
    go_wp2
    go_ret
    exact ⟨rfl, hb.trans (hbV.mono hb.size)⟩
  · have hv : decide (On ls l c) = false := decide_eq_false (fun h => by have := h.1; have := h.2.1; omega)
    rw [hv]
    have b0 : decide (0 < n) = false := decide_eq_false h0
    have b1 : decide ((0 : Int) < (n : Int)) = false := decide_eq_false (by omega)
    clear hX hp h hv
    go_enter Try.func30, Try.ntmps30
    go_upto_region 1 with fail
    rw [← HX.out]
    refine wp_region_grow (by kernel_rfl) (by kernel_rfl) ?_
    repeat (go_big_quiet_step (fail))
    refine wpQuiet_nil ?_
    rintro V ⟨⟨_, hbV⟩, rfl⟩
    clear f0 f1
    go_wp2
    go_ret
    exact ⟨rfl, hb.trans (hbV.mono hb.size)⟩
end Go.Proofs.Ytnngcminomooeaa.Po
/-
  Package paraobj: the blocks of a text, one by one (Blocks).
-/
set_option linter.unusedVariables false
set_option linter.unusedSimpArgs false
set_option maxRecDepth 100000
namespace Go.Proofs.Ytnngcminomooeaa.Po
open Go Go.RowKit Go.Proofs.Ytnngcminomooeaa.Vk Go.Proofs.Ytnngcminomooeaa.Str Go.Proofs.Ytnngcminomooeaa.Ln Go.Proofs.Ytnngcminomooeaa.Cl Go.Proofs.Ytnngcminomooeaa.Mv Go.Proofs.Ytnngcminomooeaa.Wo
attribute [local go_sem] Oper.semAt_some

/-- slices.Clone of strings: the clone is new. -/
theorem clone_new (a : Option Addr) (n c : Nat) (ls : List ByteArray) (w : World) (h : Ss w a n c ls) (hn : n ≤ 1000000) : Calls Try.prog 22 #[.slice a n c] w fun e w' =>
    ∃ b cc, e = .returned (.slice b n cc) ∧ Ss w' b n cc ls ∧ Below w.heap.size w w' ∧ (∀ k, blk (.slice b n cc) = some k → w.heap.size ≤ k) := by
  obtain ⟨i0, hi0, hz0, hz1, hz2⟩ := info_parts infoS
  have hlen := h.length
  cases a with
  | none =>
    obtain ⟨rfl, rfl⟩ : n = 0 ∧ c = 0 := by
      obtain ⟨_, _, _, ⟨ao, he, h0⟩ | ⟨b, o, c', he, _⟩⟩ := h
      · injection he with _ e2 e3; exact ⟨e2, e3⟩
      · cases he
    have HH := Lib.hid h
    have hcmp : ∀ W : World, (binOp .eql 22 (.slice none 0 0) (.slice none 0 0)).run Try.prog W = .ok (.bool true) W := fun W => by kernel_rfl
    clear h
    go_enter Try.func22, Try.ntmps22
    go_wp2
    go_ret
    exact ⟨none, 0, rfl, HH.out, Below.refl _ _, fun k hk => by cases hk⟩
  | some ad =>
    have HH := Lib.hid h
    clear h
    obtain ⟨X, hX⟩ : ∃ X, X = w.alloc (.cells #[] ES) := ⟨_, rfl⟩
    have hbX : Below w.heap.size w X := by rw [hX]; exact (Below.refl _ w).alloc (Nat.le_refl _) _
    have hown : X.ownsRow w.heap.size ES 1 (.slice (some ⟨w.heap.size, 0, none⟩) 0 0) 0 [] := by
      rw [hX]
      exact ⟨rfl, .inr ⟨w.heap.size, 0, #[], rfl, Nat.le_refl _, heap_alloc_new w _, Nat.le_refl _, by simp [maxLen], rfl, rfl⟩⟩
    have HO := Lib.hid (And.intro hX (And.intro hbX hown))
    have hsrc := Lib.hid (SrcV.below HH.out hbX)
    have hXs : w.heap.size ≤ X.heap.size := hbX.size
    have hcmp : ∀ W : World, (binOp .eql 22 (.slice (some ad) n c) (.slice none 0 0)).run Try.prog W = .ok (.bool false) W := fun W => by kernel_rfl
    clear hX hbX hown
    go_enter Try.func22, Try.ntmps22
    go_wp2_with (at_builtin; rw [← HO.out.1]; go_must (refine append_srcv _ rfl _ _ 22 rfl w.heap.size ES i0 (.string ⟨#[]⟩) 1 16 underS hi0 hz0 hz1 hz2 rfl (by decide) _ 0 [] rfl HO.out.2.2 _ n (ls.map .string) rfl hsrc.out (by simp only [maxLen]; omega) (by omega) hXs ?_); intro ob oc w2 hown hg hnr; have HO2 := Lib.hid (And.intro hown hg); clear hown hg hnr)
    go_ret
    obtain ⟨hown, hg⟩ := HO2.out
    simp only [Nat.zero_add, List.nil_append] at hown ⊢
    refine ⟨ob, oc, rfl, SrcV.ofOwn hown (one_cells _), ?_, fun k hk => (hown.lt k (by cases ob <;> exact hk)).1⟩
    exact HO.out.2.1.grown hg HO.out.2.1.size (fun k e => by simp [Value.ownBlock, Act.eval] at e; omega)

set_option maxHeartbeats 4000000 in
theorem blocks_iter {a : Option Addr} {n c : Nat} {ls : List ByteArray} (S : Nat → Prop) (w : World) (bl : Nat) (h : Ss w a n c ls)
    (h0 : w.cell? ⟨bl, 0, none⟩ = some (.slice a n c)) (hSb : ¬ S bl) (hSl : 0 < n → ∀ k, blk (.slice a n c) = some k → ¬ S k) :
    Iter Try.prog 23 #[.pointer (some ⟨bl, 0, none⟩)] encr 0 (Fr S) (bls ls) w := fun l J Jx W hW hJ hJx hY hj0 => by
  have hlen := h.length
  have hn := h.le63
  have hez : (eb ls).size = n := by rw [eb_size]; exact hlen
  have hbl : bls ls = pr (eb ls) true n := by unfold bls rs; rw [hez]
  have HBL := Lib.hid hbl
  have HY := Lib.hid hY
  have HJ0 := Lib.hid hj0
  have d0 := cell_later hW h0
  clear hY hj0 h0 hbl
  refine callsIn_of_wp Try.func23 rfl trivial ?_ rfl
  simp only [Try.ntmps23, List.size_toArray, List.length_cons, List.length_nil, Nat.reduceAdd, Nat.reduceSub, Array.replicate_succ, Array.replicate_zero, List.push_toArray, List.append_toArray, List.nil_append, List.cons_append]
  gi_wp2
  have D0 := Lib.hid d0
  clear d0
  gi_loopw [3] (fun i wr => ∃ f : Nat, i = .int .i64 f ∧ Hid (f ≤ n ∧ (f = n ∨ Bd (eb ls) true f) ∧ J (pr (eb ls) true f) wr ∧ W.heap.size ≤ wr.heap.size ∧ Fr S W wr)) (fun i _ => n - (RowKit.intOf i).toNat)
  case atStart => exact ⟨0, rfl, Nat.zero_le _, .inr (.inl rfl), HJ0.out, Nat.le_refl _, Fr.refl _ _⟩
  case round =>
    obtain ⟨f, rfl, hR⟩ := hrel
    have c0 := Fr.cell hR.out.2.2.2.2 D0.out hSb
    by_cases hfn : f < n
    · have hfi := finish_any a n c ls f wr (SrcV.fr (SrcV.below h hW) hR.out.2.2.2.2 hSl) hfn
      have b0 : decide (f < n) = true := decide_eq_true hfn
      have b1 : (f : Int) < (n : Int) := by omega
      gi_wp2_with fail
      refine ⟨trivial, ?_⟩
      refine (callsIn_wide.2 hfi).mono ?_
      rintro e V ⟨t, rfl, hN, hb⟩
      obtain ⟨hfs, hbd, hJf, hsz, hF⟩ := hR.out
      have hbd : Bd (eb ls) true f := by
        rcases hbd with e | e
        · omega
        · exact e
      obtain ⟨hN1, hN2, hN3, hN4⟩ := hN
      obtain ⟨g1, g2, r, g3⟩ := rs_next hbd hN1 hN2 hN3 hN4
      rw [hez] at hN2 g2
      have hJV : J (pr (eb ls) true f) V := hJ _ _ _ none hJf (grown_below hb) (fun _ e => by cases e)
      have hFV : Fr S W V := hF.trans (Fr.ofBelow hb _)
      have hszV : W.heap.size ≤ V.heap.size := Nat.le_trans hsz hb.size
      obtain ⟨fn, tmps, assign, body, hy, hRd⟩ := HY.out _ (f, t) V ⟨r, g3⟩ (by omega) hJV
      have HRD := Lib.hid hRd
      have HV := Lib.hid (And.intro hFV hszV)
      have HP := Lib.hid (And.intro g1 (And.intro g2 (show bls ls = _ from g3)))
      have HN2 := Lib.hid (And.intro hN1 hN2)
      dsimp only [encr] at hy
      clear hfi hRd hFV hszV g1 g2 g3 hN1 hN2 hN3 hN4 hJV hJf hF hbd hfs hsz hb c0 b0 b1
      gi_wp2
      refine (roundIn_any HRD.out).mono ?_
      rintro e W5 ⟨⟨hsz5, _⟩, (⟨rfl, hJ5, hk5⟩ | ⟨rfl, hJx5⟩)⟩
      · have H5 := Lib.hid (And.intro hJ5 (And.intro hk5 hsz5))
        clear hJ5 hk5 hy hsz5
        gi_wp2
        go_roundw
        case rel =>
          refine ⟨t, rfl, HN2.out.2, HP.out.2.1, ?_, Nat.le_trans HV.out.2 H5.out.2.2, HV.out.1.trans H5.out.2.1⟩
          rw [HP.out.1]; exact H5.out.1
        case measure => have := HN2.out; simp [RowKit.intOf]; omega
      · have H5 := Lib.hid hJx5
        clear hJx5 hy
        gi_wp2
        refine bodyPost_ret (results_none rfl _ _ _) rfl ?_
        refine ⟨⟨_, rfl⟩, .inr ⟨_, ?_, ?_, H5.out⟩⟩
        · exact ⟨r, by rw [HP.out.2.2]; simp⟩
        · simp
    · obtain rfl : f = n := by have := hR.out.1; omega
      have b0 : decide (f < f) = false := decide_eq_false (by omega)
      gi_wp2
      go_end0
      exact ⟨⟨_, rfl⟩, .inl (by rw [HBL.out]; exact hR.out.2.2.1)⟩

theorem blocks_new (a : Option Addr) (n c : Nat) (ls : List ByteArray) (w : World) (h : Ss w a n c ls) (hn : n ≤ 1000000) : Calls Try.prog 10 #[.slice a n c] w fun e w' =>
    ∃ ob oc, e = .returned (.func (.func 23) #[] #[.pointer (some ⟨w.heap.size, 0, none⟩)]) ∧ w'.cell? ⟨w.heap.size, 0, none⟩ = some (.slice ob n oc) ∧ Ss w' ob n oc ls ∧ Below w.heap.size w w' ∧ w.heap.size < w'.heap.size ∧ (∀ k, blk (.slice ob n oc) = some k → w.heap.size ≤ k) := by
  obtain ⟨X, hX⟩ : ∃ X, X = w.alloc (.cells #[.slice a n c] 22) := ⟨_, rfl⟩
  have hbX : Below w.heap.size w X := by rw [hX]; exact (Below.refl _ w).alloc (Nat.le_refl _) _
  have hr : X.heap[w.heap.size]? = some (.cells #[.slice a n c] 22 (0, 0)) := by rw [hX]; exact heap_alloc_new w _
  have hzX : w.heap.size < X.heap.size := (Array.getElem?_eq_some_iff.1 hr).1
  have hcl := clone_new a n c ls X (SrcV.below h hbX) hn
  have p0 : X.cell? ⟨w.heap.size, 0, none⟩ = some (.slice a n c) := (cell_of_row X _ 0 _ _ _ hr).trans (by simp)
  have HX := Lib.hid hX
  have HR := Lib.hid (And.intro hr hbX)
  clear hX hr hbX h
  go_enter Try.func10, Try.ntmps10
  go_wp2_with fail
  rw [← HX.out]
  refine hcl.mono ?_
  rintro e V ⟨ob, oc, rfl, hs, hb, hk⟩
  have hr := (hb.block w.heap.size hzX).trans HR.out.1
  have q0 : V.cell? ⟨w.heap.size, 0, none⟩ = some (.slice a n c) := (cell_of_row V _ 0 _ _ _ hr).trans (by simp)
  have qz : V.frozen? ⟨w.heap.size, 0, none⟩ = false := frozen_of_row V _ 0 _ _ hr
  have HV := Lib.hid (And.intro hr (And.intro hs (And.intro hb hk)))
  clear hcl p0 hr hs hb hk
  go_wp2
  go_ret
  obtain ⟨hr, hs, hb, hk⟩ := HV.out
  have hF : Fr (fun k => k = w.heap.size) V (V.setCell ⟨w.heap.size, 0, none⟩ (.slice ob n oc)) := (Fr.refl (fun k => k = w.heap.size) V).setCell (p := ⟨w.heap.size, 0, none⟩) (fun _ => rfl) _
  have hbw := HR.out.2.trans (hb.mono HR.out.2.size)
  refine ⟨ob, oc, rfl, ?_, SrcV.fr hs hF (fun _ k e e2 => ?_), hbw.setCell (p := ⟨w.heap.size, 0, none⟩) (Nat.le_refl _) _, ?_, fun k e => ?_⟩
  · exact (cell_of_row _ _ 0 _ _ _ (heap_setCell_same V _ 0 _ _ _ hr)).trans (by simp)
  · have := hk k e; omega
  · have := hb.size; have := hF.size; omega
  · have := hk k e; omega

theorem blocks_tells (a : Option Addr) (n c : Nat) (ls : List ByteArray) (w : World) (h : Ss w a n c ls) (hn : n ≤ 1000000) : Calls Try.prog 10 #[.slice a n c] w fun e w' =>
    ∃ v, e = .returned v ∧ Tells w' v 0 (bls ls) ∧ Below w.heap.size w w' := by
  refine (blocks_new a n c ls w h hn).mono ?_
  rintro e w' ⟨ob, oc, rfl, hc, hs, hb, hz, hk⟩
  refine ⟨_, rfl, ⟨_, _, rfl, enters_of Try.func23 (by kernel_rfl) rfl, ?_⟩, hb⟩
  refine blocks_iter _ _ _ hs hc (by omega) (fun h0 k e hh => ?_)
  have := SrcV.blkLt hs (by omega) k e
  omega
/-- .. where the caller's own blocks M may be written between. -/
theorem blocks_keep (a : Option Addr) (n c : Nat) (ls : List ByteArray) (M : Nat → Prop) (w : World) (h : Ss w a n c ls) (hn : n ≤ 1000000) (hM : ∀ k, M k → k < w.heap.size) : Calls Try.prog 10 #[.slice a n c] w fun e w' =>
    ∃ g lb, e = .returned (.func (.func g) #[] lb) ∧ (∀ args w', (callFunc g args).run Try.prog w' = .ok (.enter g args) w') ∧ Iter Try.prog g lb encr 0 (Fr (fun k => M k ∨ w'.heap.size ≤ k)) (bls ls) w' ∧ Below w.heap.size w w' := by
  refine (blocks_new a n c ls w h hn).mono ?_
  rintro e w' ⟨ob, oc, rfl, hc, hs, hb, hz, hk⟩
  refine ⟨_, _, rfl, enters_of Try.func23 (by kernel_rfl) rfl, ?_, hb⟩
  refine blocks_iter _ _ _ hs hc ?_ (fun h0 k e hh => ?_)
  · rintro (hh | hh)
    · have := hM _ hh; omega
    · omega
  · have h1 := SrcV.blkLt hs (by omega) k e
    have h2 := hk k e
    rcases hh with hh | hh
    · have := hM _ hh; omega
    · omega
end Go.Proofs.Ytnngcminomooeaa.Po
