/-
  A script of changes of a table that came in as a slice of structs.
-/
import Derived.Test.YtndfbjpgbpcimaaLRel
import Derived.Deep.Slices
import Derived.ChangeArms
import Derived.WalkKit
import Derived.ProofKit
import Derived.OpenShut
import Derived.ChangeOld
set_option linter.unusedVariables false
namespace Go.Proofs.Ytndfbjpgbpcimaa.Vk
open Go Go.RowKit

end Go.Proofs.Ytndfbjpgbpcimaa.Vk

namespace Go.Proofs.Ytndfbjpgbpcimaa.LActs
open Go Go.RowKit Go.Proofs.Ytndfbjpgbpcimaa.Vk Go.ChangeShapes Go.WideShapes Go.ChangeAt

/-- One change of the script. -/
structure ActD where
  what : Int
  off : Int
  n : Int
  s : ByteArray

def ActD.cells (a : ActD) : List Value := [.int .u8 a.what, .int .i64 a.off, .int .i64 a.n, .string a.s]

def ActD.fits (a : ActD) : Prop :=
  (Lit.int .u8 a.what).wf = true ∧ (Lit.int .i64 a.off).wf = true ∧ (Lit.int .i64 a.n).wf = true ∧ a.s.size ≤ maxLen

/-- A script. -/
def Script (w : World) (x : Option Addr) (m c : Nat) (ls : List ActD) : Prop :=
  m ≤ c ∧ c ≤ maxLen ∧ ls.length = m ∧ ∀ j a, ls[j]? = some a → a.fits ∧ ∃ b o, x = some ⟨b, o, none⟩ ∧ ∀ f u, a.cells[f]? = some u → w.cell? ⟨b, o + (j * 4 + f), none⟩ = some u

theorem cut4 {cs : List Value} (h : cs.length = 4) : ∃ c0 c1 c2 c3, cs = [c0, c1, c2, c3] := by
  match cs, h with
  | [c0, c1, c2, c3], _ => exact ⟨c0, c1, c2, c3, rfl⟩

theorem choose_list {α : Type} {p : Nat → α → Prop} : ∀ (n : Nat), (∀ i, i < n → ∃ a, p i a) → ∃ l : List α, l.length = n ∧ ∀ j a, l[j]? = some a → p j a
  | 0, _ => ⟨[], rfl, by simp⟩
  | n + 1, h => by
    obtain ⟨l, hl, hp⟩ := choose_list n fun i hi => h i (by omega)
    obtain ⟨a, ha⟩ := h n (by omega)
    refine ⟨l ++ [a], by simp [hl], fun j b hj => ?_⟩
    rw [List.getElem?_append] at hj
    split at hj
    · exact hp j b hj
    · have : j - l.length < 1 := by
        rcases Nat.lt_or_ge (j - l.length) 1 with h1 | h1
        · exact h1
        · rw [List.getElem?_eq_none (by simpa using h1)] at hj; cases hj
      obtain rfl : j = n := by omega
      rw [hl, Nat.sub_self] at hj
      simp at hj
      exact hj ▸ ha

/-- One struct of the script, read. -/
theorem one_act {H : Type} {enc : TypeId × Value → H} {W : World} {base : Nat} {held : Bool} {n : Nat} {cs : List Value} {x : DataW H × List MemPlace}
    (h : DataW.trod enc Try.prog W base (fun _ => true) held n 28 cs = some x) : ∃ a : ActD, cs = a.cells ∧ a.fits := by
  obtain ⟨ys, n', _, _, hl, hyl, hf⟩ := DataW.trod_struct Try.underlying28 h
  obtain ⟨c0, c1, c2, c3, rfl⟩ := cut4 (hl.trans (by kernel_rfl))
  have k1 : Try.prog.cellsOf 5 = 1 := by kernel_rfl
  have k2 : Try.prog.cellsOf 3 = 1 := by kernel_rfl
  have k3 : Try.prog.cellsOf 9 = 1 := by kernel_rfl
  match ys, hyl with
  | [y0, y1, y2, y3], _ =>
  have h0 : DataW.trod enc Try.prog W base (fun _ => true) held n' 5 [c0] = some y0 := by simpa [k1] using hf 0 _ rfl
  have h1 : DataW.trod enc Try.prog W base (fun _ => true) held n' 3 [c1] = some y1 := by simpa [k2] using hf 1 _ rfl
  have h2 : DataW.trod enc Try.prog W base (fun _ => true) held n' 3 [c2] = some y2 := by simpa [k2] using hf 2 _ rfl
  have h3 : DataW.trod enc Try.prog W base (fun _ => true) held n' 9 [c3] = some y3 := by simpa [k3] using hf 3 _ rfl
  obtain ⟨what, e0, _, f0⟩ := DataW.trod_int Try.underlying5 h0
  obtain ⟨i, e1, _, f1⟩ := DataW.trod_int Try.underlying3 h1
  obtain ⟨m, e2, _, f2⟩ := DataW.trod_int Try.underlying3 h2
  obtain ⟨s, e3, _, f3⟩ := DataW.trod_string Try.underlying9 h3
  simp only [List.cons.injEq, and_true] at e0 e1 e2 e3
  subst e0 e1 e2 e3
  exact ⟨⟨what, i, m, s⟩, rfl, f0, f1, f2, f3⟩

/-- The script, read. -/
theorem src_acts {H : Type} {enc : TypeId × Value → H} {W : World} {base : Nat} {held : Bool} {a : Option Addr} {n c fuel : Nat} {x : DataW H × List MemPlace}
    (hf : DataW.trod enc Try.prog W base (fun _ => true) held fuel 22 [.slice a n c] = some x) : ∃ ls : List ActD, Script W a n c ls := by
  rcases Go.Deep.open_slice Try.underlying22 hf with ⟨hcs, _⟩ | ⟨y, l, c', m, k, D, Pl, hcs, _, hl, hm, hmm, _, hel⟩
  · simp at hcs
    obtain ⟨rfl, rfl, rfl⟩ := hcs
    exact ⟨[], by simp [Script, maxLen]⟩
  · simp at hcs
    obtain ⟨rfl, rfl, rfl⟩ := hcs
    obtain ⟨ls, hls, hp⟩ := choose_list (p := fun i (d : ActD) => d.fits ∧ ∀ f u, d.cells[f]? = some u → W.cell? (y.add (i * 4 + f)) = some u) n (fun i hi => by
      obtain ⟨cs', h1, h2⟩ := hel i (by simp at hmm; omega)
      obtain ⟨d, rfl, hd⟩ := one_act h2
      rw [show Try.prog.cellsOf 28 = 4 from by kernel_rfl] at h1
      obtain ⟨_, _, h3⟩ := World.cells?_some h1
      refine ⟨d, hd, fun f u hu => ?_⟩
      have h4 : f < 4 := by have := (List.getElem?_eq_some_iff.1 hu).1; simpa [ActD.cells] using this
      rw [← Go.Deep.add_add, h3 f h4, hu])
    refine ⟨ls, hl, hm, hls, fun j d hd => ?_⟩
    obtain ⟨h1, h2⟩ := hp j d hd
    refine ⟨h1, ?_⟩
    have h0 : 0 < ls.length := by have := (List.getElem?_eq_some_iff.1 hd).1; omega
    obtain ⟨_, h3⟩ := hp 0 _ (List.getElem?_eq_getElem h0)
    have h4 : W.cell? y = some (.int .u8 ls[0].what) := by simpa [Addr.add] using h3 0 _ rfl
    obtain ⟨yb, yo, rfl⟩ := spot_none h4
    exact ⟨yb, yo, rfl, fun f u hu => by have := h2 f u hu; rwa [Addr.add_lit] at this⟩

end Go.Proofs.Ytndfbjpgbpcimaa.LActs
