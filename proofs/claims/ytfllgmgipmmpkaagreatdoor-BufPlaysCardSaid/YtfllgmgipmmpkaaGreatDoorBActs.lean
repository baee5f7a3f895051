/-
  A script of replacements that came in as a slice of structs: its cells, each struct's own lines, and how long their strings are at most.
-/
import Derived.Test.YtfllgmgipmmpkaaGreatDoorWr
import Derived.Deep.Slices
import Derived.ChangeArms
import Derived.WalkKit
import Derived.ProofKit
import Derived.OpenShut
import Derived.ChangeOld
set_option linter.unusedVariables false
set_option linter.unusedSimpArgs false
set_option maxRecDepth 100000
namespace Go.Proofs.YtfllgmgipmmpkaaGreatDoor.BActs
open Go Go.RowKit Go.Proofs.YtfllgmgipmmpkaaGreatDoor.Vk Go.ChangeShapes Go.WideShapes Go.ChangeAt

structure ActD where
  at_ : Int
  n : Int
  xa : Option Addr
  xn : Nat
  xc : Nat
  zs : List ByteArray

def ActD.cells (a : ActD) : List Value := [.int .i64 a.at_, .int .i64 a.n, .slice a.xa a.xn a.xc]

def ActD.fits (w : World) (a : ActD) : Prop :=
  (Lit.int .i64 a.at_).wf = true ∧ (Lit.int .i64 a.n).wf = true ∧ SrcV w 1 (.slice a.xa a.xn a.xc) a.xn (a.zs.map .string)

def Script (w : World) (x : Option Addr) (m c : Nat) (ls : List ActD) : Prop :=
  m ≤ c ∧ c ≤ maxLen ∧ ls.length = m ∧ ∀ j a, ls[j]? = some a → a.fits w ∧ ∃ b o, x = some ⟨b, o, none⟩ ∧ ∀ f u, a.cells[f]? = some u → w.cell? ⟨b, o + (j * 3 + f), none⟩ = some u

theorem cut3 {cs : List Value} (h : cs.length = 3) : ∃ c0 c1 c2, cs = [c0, c1, c2] := by
  match cs, h with
  | [c0, c1, c2], _ => exact ⟨c0, c1, c2, rfl⟩

theorem choose_list {α : Type} {p : Nat → α → Prop} : ∀ (n : Nat), (∀ i, i < n → ∃ a, p i a) → ∃ l : List α, l.length = n ∧ ∀ j a, l[j]? = some a → p j a
  | 0, _ => ⟨[], rfl, by simp⟩
  | n + 1, h => by
    obtain ⟨l, hl, hp⟩ := choose_list n fun i hi => h i (by omega)
    obtain ⟨a, ha⟩ := h n (by omega)
    refine ⟨l ++ [a], by simp [hl], fun j b hj => ?_⟩
    rw [List.getElem?_append] at hj
    split at hj
    · exact hp j b hj
    · have : j - l.length < 1 := by
        rcases Nat.lt_or_ge (j - l.length) 1 with h1 | h1
        · exact h1
        · rw [List.getElem?_eq_none (by simpa using h1)] at hj; cases hj
      obtain rfl : j = n := by omega
      rw [hl, Nat.sub_self] at hj
      simp at hj
      exact hj ▸ ha

def Small {H : Type} (a : ActD) (d : DataW H) : Prop := ∀ s ∈ a.zs, s.size ∈ DataW.weights Tryz.prog 31 d

theorem one_act {H : Type} {enc : TypeId × Value → H} {W : World} {base : Nat} {held : Bool} {n : Nat} {cs : List Value} {x : DataW H × List MemPlace}
    (h : DataW.trod enc Tryz.prog W base (fun _ => true) held n 31 cs = some x) : ∃ a : ActD, cs = a.cells ∧ a.fits W ∧ Small a x.1 := by
  obtain ⟨ys, n', _, hx, hl, hyl, hf⟩ := DataW.trod_struct Tryz.underlying31 h
  obtain ⟨c0, c1, c2, rfl⟩ := cut3 (hl.trans (by kernel_rfl))
  have k2 : Tryz.prog.cellsOf 3 = 1 := by kernel_rfl
  have k3 : Tryz.prog.cellsOf 22 = 1 := by kernel_rfl
  match ys, hyl with
  | [y1, y2, y3], _ =>
  have h1 : DataW.trod enc Tryz.prog W base (fun _ => true) held n' 3 [c0] = some y1 := by simpa [k2] using hf 0 _ rfl
  have h2 : DataW.trod enc Tryz.prog W base (fun _ => true) held n' 3 [c1] = some y2 := by simpa [k2] using hf 1 _ rfl
  have h3 : DataW.trod enc Tryz.prog W base (fun _ => true) held n' 22 [c2] = some y3 := by simpa [k3] using hf 2 _ rfl
  obtain ⟨i, e1, _, f1⟩ := DataW.trod_int Tryz.underlying3 h1
  obtain ⟨m, e2, _, f2⟩ := DataW.trod_int Tryz.underlying3 h2
  obtain ⟨xa, xn, xc, e3⟩ : ∃ a l c, [c2] = [.slice a l c] := by
    rcases Go.Deep.open_slice Tryz.underlying22 h3 with ⟨hcs, _⟩ | ⟨a', len', cap', m, n, D, Pl, hcs, _⟩
    · exact ⟨_, _, _, hcs⟩
    · exact ⟨_, _, _, hcs⟩
  simp only [List.cons.injEq, and_true] at e1 e2 e3
  subst e1 e2 e3
  obtain ⟨zs, hz, hd⟩ := Wr.src_strings h3
  refine ⟨⟨i, m, xa, xn, xc, zs⟩, rfl, ⟨f1, f2, hz⟩, fun s hs => ?_⟩
  rw [hx]
  rcases hd with rfl | ⟨rest, hd⟩
  · simp at hs
  · rw [DataW.weights, Tryz.underlying31]
    refine DataW.weights_mem_each (j := 2) (t := 22) (d := y3.1) rfl rfl _ ?_
    rw [hd, DataW.weights, Tryz.underlying22]
    exact List.mem_cons_of_mem _ (List.mem_append.2 (.inl (Wr.weights_strs zs s hs)))

theorem mem_all {H : Type} {P : Program} {e : TypeId} : ∀ (l : List (DataW H)) (d : DataW H), d ∈ l → ∀ k ∈ d.weights P e, k ∈ DataW.weightsAll P e l
  | [], _, h, _, _ => by simp at h
  | x :: r, d, h, k, hk => by
    rw [DataW.weightsAll, List.mem_append]
    rcases List.mem_cons.1 h with rfl | h
    · exact .inl hk
    · exact .inr (mem_all r d h k hk)

def Told {H : Type} (ls : List ActD) (d : DataW H) : Prop := ∀ a ∈ ls, ∀ s ∈ a.zs, s.size ∈ DataW.weights Tryz.prog 23 d

/-- The script, read. -/
theorem src_acts {H : Type} {enc : TypeId × Value → H} {W : World} {base : Nat} {held : Bool} {a : Option Addr} {n c fuel : Nat} {x : DataW H × List MemPlace}
    (hf : DataW.trod enc Tryz.prog W base (fun _ => true) held fuel 23 [.slice a n c] = some x) : ∃ ls : List ActD, Script W a n c ls ∧ Told ls x.1 := by
  rcases Go.Deep.open_slice Tryz.underlying23 hf with ⟨hcs, _⟩ | ⟨y, l, c', m, k, D, Pl, hcs, _, hl, hm, hmm, hx, hel⟩
  · simp at hcs
    obtain ⟨rfl, rfl, rfl⟩ := hcs
    exact ⟨[], by simp [Script, maxLen], fun a h => by simp at h⟩
  · simp at hcs
    obtain ⟨rfl, rfl, rfl⟩ := hcs
    obtain ⟨ls, hls, hp⟩ := choose_list (p := fun i (d : ActD) => d.fits W ∧ (∀ f u, d.cells[f]? = some u → W.cell? (y.add (i * 3 + f)) = some u) ∧ Small d (D i)) n (fun i hi => by
      obtain ⟨cs', h1, h2⟩ := hel i (by simp at hmm; omega)
      obtain ⟨d, rfl, hd, hsm⟩ := one_act h2
      rw [show Tryz.prog.cellsOf 31 = 3 from by kernel_rfl] at h1
      obtain ⟨_, _, h3⟩ := World.cells?_some h1
      refine ⟨d, hd, fun f u hu => ?_, hsm⟩
      have h4 : f < 3 := by have := (List.getElem?_eq_some_iff.1 hu).1; simpa [ActD.cells] using this
      rw [← Go.Deep.add_add, h3 f h4, hu])
    refine ⟨ls, ⟨hl, hm, hls, fun j d hd => ?_⟩, fun d hd s hs => ?_⟩
    · obtain ⟨h1, h2, _⟩ := hp j d hd
      refine ⟨h1, ?_⟩
      have h0 : 0 < ls.length := by have := (List.getElem?_eq_some_iff.1 hd).1; omega
      obtain ⟨_, h3, _⟩ := hp 0 _ (List.getElem?_eq_getElem h0)
      have h4 : W.cell? y = some (.int .i64 ls[0].at_) := by simpa [Addr.add] using h3 0 _ rfl
      obtain ⟨yb, yo, rfl⟩ := spot_none h4
      exact ⟨yb, yo, rfl, fun f u hu => by have := h2 f u hu; rwa [Addr.add_lit] at this⟩
    · obtain ⟨j, hj, rfl⟩ := List.getElem_of_mem hd
      obtain ⟨_, _, hsm⟩ := hp j _ (List.getElem?_eq_getElem hj)
      rw [hx, DataW.weights, Tryz.underlying23]
      refine List.mem_cons_of_mem _ (List.mem_append.2 (.inl (mem_all _ (D j) ?_ _ (hsm s hs))))
      exact List.mem_map.2 ⟨j, List.mem_range.2 (by omega), rfl⟩

theorem sized {H : Type} {ts : List TypeId} {ds : List (DataW H)} (h : (DataW.weightsEach Tryz.prog ts ds).all (· ≤ reachBytes) = true) {j : Nat} {e : TypeId} {d : DataW H} {ls : List ActD}
    (ht : ts[j]? = some 23) (hd : ds[j]? = some d) (hu : Tryz.prog.underlying 23 = some (.slice e)) (hl : Told ls d) : ∀ a ∈ ls, ∀ s ∈ a.zs, s.size ≤ 140737488355328 := by
  intro a ha s hs
  have := List.all_eq_true.1 h _ (DataW.weights_mem_each ht hd s.size (hl a ha s hs))
  have h2 : s.size ≤ reachBytes := by simpa using this
  exact Nat.le_trans h2 (Nat.le_of_lt reachBytes_lt)

end Go.Proofs.YtfllgmgipmmpkaaGreatDoor.BActs
