/-
  Layer 8's laws: what an iterator of places tells (heard); Starts and Ends; places held against one another.
-/
import Derived.Test.YtpdbfdhfonfbeaaZq
set_option linter.unusedVariables false
set_option linter.unusedSimpArgs false
set_option maxRecDepth 100000
namespace Go.Proofs.Ytpdbfdhfonfbeaa.Wd
open Go Go.RowKit Go.Proofs.Ytpdbfdhfonfbeaa.Vk Go.Proofs.Ytpdbfdhfonfbeaa.Str Go.Proofs.Ytpdbfdhfonfbeaa.Ln Go.Proofs.Ytpdbfdhfonfbeaa.Cl Go.Proofs.Ytpdbfdhfonfbeaa.Mv Go.Shelf
attribute [local go_sem] Oper.semAt_some

/-- slices.Clone of strings. -/
theorem clone_any (a : Option Addr) (n c : Nat) (ls : List ByteArray) (w : World) (h : Ss w a n c ls) (hn : n ≤ 1000000) : Calls Try.prog 37 #[.slice a n c] w fun e w' =>
    ∃ b cc, e = .returned (.slice b n cc) ∧ Ss w' b n cc ls ∧ Below w.heap.size w w' := by
  obtain ⟨i0, hi0, hz0, hz1, hz2⟩ := info_parts infoS
  have hlen := h.length
  cases a with
  | none =>
    obtain ⟨rfl, rfl⟩ : n = 0 ∧ c = 0 := by
      obtain ⟨_, _, _, ⟨ao, he, h0⟩ | ⟨b, o, c', he, _⟩⟩ := h
      · injection he with _ e2 e3; exact ⟨e2, e3⟩
      · cases he
    have HH := Lib.hid h
    have hcmp : ∀ W : World, (binOp .eql 22 (.slice none 0 0) (.slice none 0 0)).run Try.prog W = .ok (.bool true) W := fun W => by kernel_rfl
    clear h
    go_enter Try.func37, Try.ntmps37
    go_wp2
    go_ret
    exact ⟨none, 0, rfl, HH.out, Below.refl _ _⟩
  | some ad =>
    have HH := Lib.hid h
    clear h
    obtain ⟨X, hX⟩ : ∃ X, X = w.alloc (.cells #[] ES) := ⟨_, rfl⟩
    have hbX : Below w.heap.size w X := by rw [hX]; exact (Below.refl _ w).alloc (Nat.le_refl _) _
    have hown : X.ownsRow w.heap.size ES 1 (.slice (some ⟨w.heap.size, 0, none⟩) 0 0) 0 [] := by
      rw [hX]
      exact ⟨rfl, .inr ⟨w.heap.size, 0, #[], rfl, Nat.le_refl _, heap_alloc_new w _, Nat.le_refl _, by simp [maxLen], rfl, rfl⟩⟩
    have HO := Lib.hid (And.intro hX (And.intro hbX hown))
    have hsrc := Lib.hid (SrcV.below HH.out hbX)
    have hXs : w.heap.size ≤ X.heap.size := hbX.size
    have hcmp : ∀ W : World, (binOp .eql 22 (.slice (some ad) n c) (.slice none 0 0)).run Try.prog W = .ok (.bool false) W := fun W => by kernel_rfl
    clear hX hbX hown
    go_enter Try.func37, Try.ntmps37
    go_wp2_with (at_builtin; rw [← HO.out.1]; go_must (refine append_srcv _ rfl _ _ 22 rfl w.heap.size ES i0 (.string ⟨#[]⟩) 1 16 underS hi0 hz0 hz1 hz2 rfl (by decide) _ 0 [] rfl HO.out.2.2 _ n (ls.map .string) rfl hsrc.out (by simp only [maxLen]; omega) (by omega) hXs ?_); intro ob oc w2 hown hg hnr; have HO2 := Lib.hid (And.intro hown hg); clear hown hg hnr)
    go_ret
    obtain ⟨hown, hg⟩ := HO2.out
    simp only [Nat.zero_add, List.nil_append] at hown ⊢
    refine ⟨ob, oc, rfl, SrcV.ofOwn hown (one_cells _), ?_⟩
    exact HO.out.2.1.grown hg HO.out.2.1.size (fun k e => by simp [Value.ownBlock, Act.eval] at e; omega)

theorem ne_pos (a b : Int) (W : World) : (binOp .neq 24 (.agg #[.int .i64 a, .int .i64 b]) (.agg #[.int .i64 a, .int .i64 b])).run Try.prog W = .ok (.bool false) W := by
  have hS : Try.prog.underlying 24 = some (.struct (Try.prog.fieldsOf 24)) := by kernel_rfl
  have hp : Try.prog.stoodInHeld 24 = false := by kernel_rfl
  rw [run_neq_struct, show (10000 : Nat) = 9999 + 1 from rfl, run_equalIn_agg W 9999 24 _ _ hS hp]
  simp only [Program.fieldsOf, Try.underlying24]
  go_simp
/-- Places held against the same places. -/
theorem places_same (a : Option Addr) (n c : Nat) (a' : Option Addr) (n' c' : Nat) (l : List P2) (w : World) (h : Ps w a n c l) (h' : Ps w a' n' c' l) :
    Calls Try.prog 21 #[.slice a n c, .slice a' n' c'] w fun e w' => e = .returned (.bool true) ∧ Below w.heap.size w w' := by
  have hlen := h.length
  obtain rfl : n' = n := by have := h'.length; omega
  have hn := h.le63
  go_enter Try.func21, Try.ntmps21
  go_wp2
  go_loopw [5] (fun u wr => ∃ k : Nat, k ≤ n' ∧ u = .int .i64 k ∧ Hid (Below w.heap.size w wr)) (fun u _ => n' - (RowKit.intOf u).toNat)
  case atStart => exact ⟨0, Nat.zero_le _, rfl, Below.refl _ _⟩
  case round =>
    obtain ⟨k, hk, rfl, hB⟩ := hrel
    by_cases hkn : k < n'
    · obtain ⟨b, o, rfl, x0, x1, hnc⟩ := h.read k (by omega)
      obtain ⟨b', o', rfl, z0, z1, hnc'⟩ := h'.read k (by omega)
      generalize l[k] = x at *
      have p0 := cell_later hB.out x0
      have p1 := cell_later hB.out x1
      have q0 := cell_later hB.out z0
      have q1 := cell_later hB.out z1
      have he := fun W => ne_pos x.1 x.2 W
      have HX := Lib.hid (And.intro h h')
      clear h h' x0 x1 z0 z1
      go_wp2_with fail
      go_quiet (fail)
      go_wp2
      go_roundw
      case rel => exact ⟨k + 1, by omega, by go_num, ((Fr.ofBelow hB.out (fun _ => False)).drewN _).below (Nat.le_refl _) (by simp)⟩
      case measure => simp [RowKit.intOf]; omega
    · obtain rfl : k = n' := by omega
      go_wp2
      go_ret
      exact ⟨rfl, hB.out⟩

/-- What stands between the rounds. -/
def Bh (w Wi : World) (M D K : Nat) (l : List P2) (V : World) : Prop :=
  Kn w Wi V ∧ V.heap[M]? = some (.cells #[.int .i64 K] 3 (0, 0)) ∧ GotP (M + 1) D l V
theorem Bh.grown {w Wi : World} {M D B K : Nat} {l : List P2} {A A' : World} {row : Option Nat} (h : Bh w Wi M D K l A) (hM : M + 2 ≤ B) (hB : w.heap.size ≤ B) (hg : A.grownBy A' row) (hr : ∀ r, row = some r → B ≤ r ∧ ∃ o : Obj, A.heap[r]? = some o ∧ o.isCells = false) : Bh w Wi M D K l A' := by
  obtain ⟨h1, h2, h4⟩ := h
  exact ⟨own_kn (α := P2) hB [] A A' row h1 hg hr, (hg.block M (Array.getElem?_eq_some_iff.1 h2).1 (fun e => by have := (hr _ e.symm).1; omega)).trans h2, h4.grown (B := B) (by omega) hg hr⟩
/-- .. and there is room. -/
def Br (w Wi : World) (M D K : Nat) (l : List P2) (V : World) : Prop := Kn w Wi V ∧ V.heap[M]? = some (.cells #[.int .i64 K] 3 (0, 0)) ∧ GotP (M + 1) D l V ∧ l.length < K
theorem Br.below {w Wi : World} {M D K : Nat} {l : List P2} {A A' : World} (h : Br w Wi M D K l A) (hb : Below A.heap.size A A') : Br w Wi M D K l A' :=
  ⟨h.1.trans (Fr.ofBelow hb _), (hb.block M (Array.getElem?_eq_some_iff.1 h.2.1).1).trans h.2.1, h.2.2.1.below hb, h.2.2.2⟩

end Go.Proofs.Ytpdbfdhfonfbeaa.Wd
