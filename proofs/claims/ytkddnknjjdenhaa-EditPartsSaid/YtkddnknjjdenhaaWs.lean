/-
  What a slice of strings that came in yields; the reach of each of its strings; a place that came in.
-/
import Derived.Test.YtkddnknjjdenhaaKit
import Derived.Test.YtkddnknjjdenhaaChecked
import Derived.SliceStrings
import Derived.ProofKit
import Derived.OpenShut
import Derived.ChangeOld
import Derived.ChangeSame
import Derived.SizedLaws
set_option linter.unusedVariables false
set_option linter.unusedSimpArgs false
set_option maxRecDepth 100000
namespace Go.Proofs.Ytkddnknjjdenhaa.Ws
open Go Go.RowKit Go.ChangeShapes Go.WideShapes Go.ChangeAt Go.Proofs.Ytkddnknjjdenhaa.Vk

/-- What a slice of strings that came in yields, and what it was read as. -/
theorem src_strings {H : Type} {enc : TypeId × Value → H} {W : World} {base : Nat} {held : Bool} {a : Option Addr} {n c fuel : Nat} {x : DataW H × List MemPlace}
    (hf : DataW.trod enc Try.prog W base (fun _ => true) held fuel 22 [.slice a n c] = some x) :
    ∃ ls : List ByteArray, SrcV W 1 (.slice a n c) n (ls.map .string) ∧ (ls = [] ∨ ∃ rest, x.1 = .slice (strs ls) rest) := by
  rcases open_strings Try.underlying22 Try.underlying9 (by kernel_rfl) hf with ⟨hcs, hx⟩ | ⟨y, l, c', ss, hcs, _, hl, hm, hz, hx, hcell, hws⟩
  · simp at hcs
    obtain ⟨rfl, rfl, rfl⟩ := hcs
    exact ⟨[], SrcV.nil _ 1, .inl rfl⟩
  · simp at hcs
    obtain ⟨rfl, rfl, rfl⟩ := hcs
    have hz' : ss.length = c := by simpa using hz
    refine ⟨ss.take n, ?_, .inr ⟨_, by rw [hx]⟩⟩
    rw [List.map_take]
    refine SrcV.ofRead hl hm (by simpa using hz') (fun i u hu => ?_) (fun u hu => by obtain ⟨s, _, rfl⟩ := List.mem_map.1 hu; rfl)
    rw [List.getElem?_map] at hu
    have hi : i < ss.length := by
      rcases Nat.lt_or_ge i ss.length with h | h
      · exact h
      · rw [List.getElem?_eq_none h] at hu; cases hu
    rw [hcell i hi]
    rw [List.getElem?_eq_getElem hi] at hu
    simp only [Option.map_some, Option.some.injEq] at hu
    rw [← hu, List.getD_eq_getElem?_getD, List.getElem?_eq_getElem hi]
    rfl

theorem weights_strs {H : Type} {P : Program} {e : TypeId} (ls : List ByteArray) : ∀ s ∈ ls, s.size ∈ DataW.weightsAll P e (strs (H := H) ls) := by
  induction ls with
  | nil => intro s hs; simp at hs
  | cons x r ih =>
    intro s hs
    have hc : strs (H := H) (x :: r) = .lit (.string x.data.toList) :: strs r := rfl
    rw [hc, DataW.weightsAll, List.mem_append]
    rcases List.mem_cons.1 hs with rfl | hs
    · exact .inl (by rw [DataW.weights, List.mem_singleton, Array.length_toList]; rfl)
    · exact .inr (ih s hs)

/-- No string of an argument is longer than the form's reach. -/
theorem sized_strings {H : Type} {P : Program} {ts : List TypeId} {ds : List (DataW H)} (h : (DataW.weightsEach P ts ds).all (· ≤ reachBytes) = true) {j : Nat} {t e : TypeId} {d : DataW H} {ls : List ByteArray}
    (ht : ts[j]? = some t) (hd : ds[j]? = some d) (hu : P.underlying t = some (.slice e)) (hl : ls = [] ∨ ∃ rest, d = .slice (strs ls) rest) : ∀ s ∈ ls, s.size ≤ 140737488355328 := by
  intro s hs
  rcases hl with rfl | ⟨rest, rfl⟩
  · simp at hs
  · have := List.all_eq_true.1 h _ (DataW.weights_mem_each ht hd s.size (by
      rw [DataW.weights, hu]
      exact List.mem_cons_of_mem _ (List.mem_append.2 (.inl (weights_strs ls s hs)))))
    have h2 : s.size ≤ reachBytes := by simpa using this
    exact Nat.le_trans h2 (Nat.le_of_lt reachBytes_lt)

theorem open_pos {H : Type} {enc : TypeId × Value → H} {W : World} {base b0 : Nat} {sp : Nat → Bool} {held : Bool} {r : Reach} {v : Value} {d : DataW H} {ps : List MemPlace}
    (hval : Value.okWide Try.prog W r b0 24 v) (hd : DataW.Trod enc Try.prog W base sp held 24 v d ps) :
    ∃ a b : Int, v = .agg #[.int .i64 a, .int .i64 b] ∧ d = .agg [.lit (.int .i64 a), .lit (.int .i64 b)] ∧ ps = [] ∧ (Lit.int .i64 a).wf = true ∧ (Lit.int .i64 b).wf = true := by
  obtain ⟨cs, rfl, hcs⟩ := okWide_struct Try.underlying24 hval
  have h2 : Try.prog.cellsOf 24 = 2 := by kernel_rfl
  have k1 : Try.prog.cellsOf 3 = 1 := by kernel_rfl
  rw [h2] at hcs
  obtain ⟨l⟩ := cs
  match l, hcs with
  | [c0, c1], _ =>
  obtain ⟨fuel, hf⟩ := hd
  obtain ⟨y0, y1, n, hx, _, h0, h1⟩ := trod_struct2 Try.underlying24 hf
  have h0' : DataW.trod enc Try.prog W base sp held n 3 [c0] = some y0 := by simpa [k1, Value.cells] using h0
  have h1' : DataW.trod enc Try.prog W base sp held n 3 [c1] = some y1 := by simpa [k1, Value.cells] using h1
  obtain ⟨a, ea, rfl, wa⟩ := DataW.trod_int Try.underlying3 h0'
  obtain ⟨b, eb, rfl, wb⟩ := DataW.trod_int Try.underlying3 h1'
  simp only [List.cons.injEq, and_true] at ea eb
  subst ea eb
  simp only [Prod.mk.injEq] at hx
  exact ⟨a, b, rfl, by rw [hx.1], by rw [hx.2]; rfl, wa, wb⟩

theorem shut_pos {H : Type} {enc : TypeId × Value → H} {W : World} {base : Nat} {sp : Nat → Bool} {held : Bool} {a b : Int} (wa : (Lit.int .i64 a).wf = true) (wb : (Lit.int .i64 b).wf = true) :
    DataW.Trod enc Try.prog W base sp held 24 (.agg #[.int .i64 a, .int .i64 b]) (.agg [.lit (.int .i64 a), .lit (.int .i64 b)]) [] := by
  have h2 : Try.prog.cellsOf 24 = 2 := by kernel_rfl
  have k1 : Try.prog.cellsOf 3 = 1 := by kernel_rfl
  refine ⟨2, ?_⟩
  have g0 : DataW.trod enc Try.prog W base sp held 1 3 [.int .i64 a] = some (.lit (.int .i64 a), []) := trod_int_mk 0 Try.underlying3 wa
  have g1 : DataW.trod enc Try.prog W base sp held 1 3 [.int .i64 b] = some (.lit (.int .i64 b), []) := trod_int_mk 0 Try.underlying3 wb
  have := trod_struct2_mk (enc := enc) (w := W) (base := base) (spare := sp) (held := held) (n := 1) (t := 24) (cs := [.int .i64 a, .int .i64 b]) (y0 := (.lit (.int .i64 a), [])) (y1 := (.lit (.int .i64 b), [])) Try.underlying24 h2.symm (by simpa [k1] using g0) (by simpa [k1] using g1)
  exact this

end Go.Proofs.Ytkddnknjjdenhaa.Ws
