/-
  A script of jumps that came in as a slice of structs.
-/
import Derived.Test.YtfclclnlmhbgiaaWs
import Derived.Deep.Slices
import Derived.ChangeArms
import Derived.WalkKit
import Derived.ProofKit
import Derived.OpenShut
import Derived.ChangeOld
set_option linter.unusedVariables false
set_option linter.unusedSimpArgs false
set_option maxRecDepth 100000
namespace Go.Proofs.Ytfclclnlmhbgiaa.JActs
open Go Go.RowKit Go.Proofs.Ytfclclnlmhbgiaa.Vk Go.ChangeShapes Go.WideShapes Go.ChangeAt

/-- One step of the script. -/
structure ActD where
  what : Int
  l : Int
  c : Int
  m : Int
  a : Int
  o : Int
  n : Int

def ActD.cells (x : ActD) : List Value := [.int .u8 x.what, .int .i64 x.l, .int .i64 x.c, .int .i64 x.m, .int .i64 x.a, .int .i64 x.o, .int .i64 x.n]
def ActD.fits (x : ActD) : Prop := (Lit.int .u8 x.what).wf = true

/-- A script. -/
def Script (w : World) (x : Option Addr) (m c : Nat) (ls : List ActD) : Prop :=
  m ≤ c ∧ c ≤ maxLen ∧ ls.length = m ∧ ∀ j a, ls[j]? = some a → a.fits ∧ ∃ b o, x = some ⟨b, o, none⟩ ∧ ∀ f u, a.cells[f]? = some u → w.cell? ⟨b, o + (j * 7 + f), none⟩ = some u

theorem cut7 {cs : List Value} (h : cs.length = 7) : ∃ c0 c1 c2 c3 c4 c5 c6, cs = [c0, c1, c2, c3, c4, c5, c6] := by
  match cs, h with
  | [c0, c1, c2, c3, c4, c5, c6], _ => exact ⟨c0, c1, c2, c3, c4, c5, c6, rfl⟩

theorem choose_list {α : Type} {p : Nat → α → Prop} : ∀ (n : Nat), (∀ i, i < n → ∃ a, p i a) → ∃ l : List α, l.length = n ∧ ∀ j a, l[j]? = some a → p j a
  | 0, _ => ⟨[], rfl, by simp⟩
  | n + 1, h => by
    obtain ⟨l, hl, hp⟩ := choose_list n fun i hi => h i (by omega)
    obtain ⟨a, ha⟩ := h n (by omega)
    refine ⟨l ++ [a], by simp [hl], fun j b hj => ?_⟩
    rw [List.getElem?_append] at hj
    split at hj
    · exact hp j b hj
    · have : j - l.length < 1 := by
        rcases Nat.lt_or_ge (j - l.length) 1 with h1 | h1
        · exact h1
        · rw [List.getElem?_eq_none (by simpa using h1)] at hj; cases hj
      obtain rfl : j = n := by omega
      rw [hl, Nat.sub_self] at hj
      simp at hj
      exact hj ▸ ha

/-- One struct of the script, read. -/
theorem one_act {H : Type} {enc : TypeId × Value → H} {W : World} {base : Nat} {held : Bool} {n : Nat} {cs : List Value} {x : DataW H × List MemPlace}
    (h : DataW.trod enc Try.prog W base (fun _ => true) held n 33 cs = some x) : ∃ a : ActD, cs = a.cells ∧ a.fits := by
  obtain ⟨ys, n', _, _, hl, hyl, hf⟩ := DataW.trod_struct Try.underlying33 h
  obtain ⟨c0, c1, c2, c3, c4, c5, c6, rfl⟩ := cut7 (hl.trans (by kernel_rfl))
  have k1 : Try.prog.cellsOf 5 = 1 := by kernel_rfl
  have k2 : Try.prog.cellsOf 3 = 1 := by kernel_rfl
  have k3 : Try.prog.cellsOf 31 = 2 := by kernel_rfl
  match ys, hyl with
  | [y0, y1, y2, y3, y4, y5], _ =>
  have h0 : DataW.trod enc Try.prog W base (fun _ => true) held n' 5 [c0] = some y0 := by simpa [k1] using hf 0 _ rfl
  have h1 : DataW.trod enc Try.prog W base (fun _ => true) held n' 31 [c1, c2] = some y1 := by simpa [k3] using hf 1 _ rfl
  have h2 : DataW.trod enc Try.prog W base (fun _ => true) held n' 3 [c3] = some y2 := by simpa [k2] using hf 2 _ rfl
  have h3 : DataW.trod enc Try.prog W base (fun _ => true) held n' 3 [c4] = some y3 := by simpa [k2] using hf 3 _ rfl
  have h4 : DataW.trod enc Try.prog W base (fun _ => true) held n' 3 [c5] = some y4 := by simpa [k2] using hf 4 _ rfl
  have h5 : DataW.trod enc Try.prog W base (fun _ => true) held n' 3 [c6] = some y5 := by simpa [k2] using hf 5 _ rfl
  obtain ⟨what, e0, _, f0⟩ := DataW.trod_int Try.underlying5 h0
  obtain ⟨u0, u1, n2, _, _, g0, g1⟩ := trod_struct2 Try.underlying31 h1
  have g0' : DataW.trod enc Try.prog W base (fun _ => true) held n2 3 [c1] = some u0 := by simpa [k2] using g0
  have g1' : DataW.trod enc Try.prog W base (fun _ => true) held n2 3 [c2] = some u1 := by simpa [k2] using g1
  obtain ⟨l, e1, _, _⟩ := DataW.trod_int Try.underlying3 g0'
  obtain ⟨c, e2, _, _⟩ := DataW.trod_int Try.underlying3 g1'
  obtain ⟨mm, e3, _, _⟩ := DataW.trod_int Try.underlying3 h2
  obtain ⟨a, e4, _, _⟩ := DataW.trod_int Try.underlying3 h3
  obtain ⟨o, e5, _, _⟩ := DataW.trod_int Try.underlying3 h4
  obtain ⟨m, e6, _, _⟩ := DataW.trod_int Try.underlying3 h5
  simp only [List.cons.injEq, and_true] at e0 e1 e2 e3 e4 e5 e6
  subst e0 e1 e2 e3 e4 e5 e6
  exact ⟨⟨what, l, c, mm, a, o, m⟩, rfl, f0⟩

/-- The script, read. -/
theorem src_acts {H : Type} {enc : TypeId × Value → H} {W : World} {base : Nat} {held : Bool} {a : Option Addr} {n c fuel : Nat} {x : DataW H × List MemPlace}
    (hf : DataW.trod enc Try.prog W base (fun _ => true) held fuel 22 [.slice a n c] = some x) : ∃ ls : List ActD, Script W a n c ls := by
  rcases Go.Deep.open_slice Try.underlying22 hf with ⟨hcs, _⟩ | ⟨y, l, c', m, k, D, Pl, hcs, _, hl, hm, hmm, _, hel⟩
  · simp at hcs
    obtain ⟨rfl, rfl, rfl⟩ := hcs
    exact ⟨[], by simp [Script, maxLen]⟩
  · simp at hcs
    obtain ⟨rfl, rfl, rfl⟩ := hcs
    obtain ⟨ls, hls, hp⟩ := choose_list (p := fun i (d : ActD) => d.fits ∧ ∀ f u, d.cells[f]? = some u → W.cell? (y.add (i * 7 + f)) = some u) n (fun i hi => by
      obtain ⟨cs', h1, h2⟩ := hel i (by simp at hmm; omega)
      obtain ⟨d, rfl, hd⟩ := one_act h2
      rw [show Try.prog.cellsOf 33 = 7 from by kernel_rfl] at h1
      obtain ⟨_, _, h3⟩ := World.cells?_some h1
      refine ⟨d, hd, fun f u hu => ?_⟩
      have h4 : f < 7 := by have := (List.getElem?_eq_some_iff.1 hu).1; simpa [ActD.cells] using this
      rw [← Go.Deep.add_add, h3 f h4, hu])
    refine ⟨ls, hl, hm, hls, fun j d hd => ?_⟩
    obtain ⟨h1, h2⟩ := hp j d hd
    refine ⟨h1, ?_⟩
    have h0 : 0 < ls.length := by have := (List.getElem?_eq_some_iff.1 hd).1; omega
    obtain ⟨_, h3⟩ := hp 0 _ (List.getElem?_eq_getElem h0)
    have h4 : W.cell? y = some (.int .u8 ls[0].what) := by simpa [Addr.add] using h3 0 _ rfl
    obtain ⟨yb, yo, rfl⟩ := spot_none h4
    exact ⟨yb, yo, rfl, fun f u hu => by have := h2 f u hu; rwa [Addr.add_lit] at this⟩
end Go.Proofs.Ytfclclnlmhbgiaa.JActs
