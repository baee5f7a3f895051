/-
  What comes in: a register, a list of bools, a script as a slice of structs with a register in each, and how long their strings are at most.
-/
import Derived.Test.YtgfajagajiofnaaWs
import Derived.Deep.Slices
import Derived.ChangeArms
import Derived.WalkKit
import Derived.ProofKit
import Derived.OpenShut
import Derived.ChangeOld
set_option linter.unusedVariables false
set_option linter.unusedSimpArgs false
set_option maxRecDepth 100000
namespace Go.Proofs.Ytgfajagajiofnaa.RActs
open Go Go.RowKit Go.Proofs.Ytgfajagajiofnaa.Vk Go.ChangeShapes Go.WideShapes Go.ChangeAt

structure ActD where
  what : Int
  name : Int
  kind : Int
  xa : Option Addr
  xn : Nat
  xc : Nat
  zs : List ByteArray
  big : Bool

def ActD.cells (a : ActD) : List Value := [.int .u8 a.what, .int .u8 a.name, .int .i64 a.kind, .slice a.xa a.xn a.xc, .bool a.big]

def ActD.fits (w : World) (a : ActD) : Prop :=
  (Lit.int .u8 a.what).wf = true ∧ (Lit.int .u8 a.name).wf = true ∧ SrcV w 1 (.slice a.xa a.xn a.xc) a.xn (a.zs.map .string)

def Script (w : World) (x : Option Addr) (m c : Nat) (ls : List ActD) : Prop :=
  m ≤ c ∧ c ≤ maxLen ∧ ls.length = m ∧ ∀ j a, ls[j]? = some a → a.fits w ∧ ∃ b o, x = some ⟨b, o, none⟩ ∧ ∀ f u, a.cells[f]? = some u → w.cell? ⟨b, o + (j * 5 + f), none⟩ = some u

theorem cut5 {cs : List Value} (h : cs.length = 5) : ∃ c0 c1 c2 c3 c4, cs = [c0, c1, c2, c3, c4] := by
  match cs, h with
  | [c0, c1, c2, c3, c4], _ => exact ⟨c0, c1, c2, c3, c4, rfl⟩

theorem choose_list {α : Type} {p : Nat → α → Prop} : ∀ (n : Nat), (∀ i, i < n → ∃ a, p i a) → ∃ l : List α, l.length = n ∧ ∀ j a, l[j]? = some a → p j a
  | 0, _ => ⟨[], rfl, by simp⟩
  | n + 1, h => by
    obtain ⟨l, hl, hp⟩ := choose_list n fun i hi => h i (by omega)
    obtain ⟨a, ha⟩ := h n (by omega)
    refine ⟨l ++ [a], by simp [hl], fun j b hj => ?_⟩
    rw [List.getElem?_append] at hj
    split at hj
    · exact hp j b hj
    · have : j - l.length < 1 := by
        rcases Nat.lt_or_ge (j - l.length) 1 with h1 | h1
        · exact h1
        · rw [List.getElem?_eq_none (by simpa using h1)] at hj; cases hj
      obtain rfl : j = n := by omega
      rw [hl, Nat.sub_self] at hj
      simp at hj
      exact hj ▸ ha

def Small {H : Type} (a : ActD) (d : DataW H) : Prop := ∀ s ∈ a.zs, s.size ∈ DataW.weights Try.prog 35 d

/-- A register that came in. -/
theorem one_reg {H : Type} {enc : TypeId × Value → H} {W : World} {base : Nat} {held : Bool} {n : Nat} {c0 c1 : Value} {x : DataW H × List MemPlace}
    (h : DataW.trod enc Try.prog W base (fun _ => true) held n 33 [c0, c1] = some x) :
    ∃ (k : Int) (a : Option Addr) (m c : Nat) (zs : List ByteArray), c0 = .int .i64 k ∧ c1 = .slice a m c ∧ SrcV W 1 (.slice a m c) m (zs.map .string) ∧ ∀ s ∈ zs, s.size ∈ DataW.weights Try.prog 33 x.1 := by
  have k2 : Try.prog.cellsOf 3 = 1 := by kernel_rfl
  have k3 : Try.prog.cellsOf 31 = 1 := by kernel_rfl
  obtain ⟨y0, y1, n', hx, _, h0, h1⟩ := trod_struct2 Try.underlying33 h
  have h0' : DataW.trod enc Try.prog W base (fun _ => true) held n' 3 [c0] = some y0 := by simpa [k2] using h0
  have h1' : DataW.trod enc Try.prog W base (fun _ => true) held n' 31 [c1] = some y1 := by simpa [k2, k3] using h1
  obtain ⟨k, e0, _, _⟩ := DataW.trod_int Try.underlying3 h0'
  obtain ⟨a, m, c, e1⟩ : ∃ a l c, [c1] = [.slice a l c] := by
    rcases Go.Deep.open_slice Try.underlying31 h1' with ⟨hcs, _⟩ | ⟨a', len', cap', m, n, D, Pl, hcs, _⟩
    · exact ⟨_, _, _, hcs⟩
    · exact ⟨_, _, _, hcs⟩
  simp only [List.cons.injEq, and_true] at e0 e1
  subst e0 e1
  obtain ⟨zs, hz, hd⟩ := Ws.src_strings h1'
  refine ⟨k, a, m, c, zs, rfl, rfl, hz, fun s hs => ?_⟩
  rw [hx]
  rcases hd with rfl | ⟨rest, hd⟩
  · simp at hs
  · rw [DataW.weights, Try.underlying33]
    refine DataW.weights_mem_each (j := 1) (t := 31) (d := y1.1) rfl rfl _ ?_
    rw [hd, DataW.weights, Try.underlying31]
    exact List.mem_cons_of_mem _ (List.mem_append.2 (.inl (Ws.weights_strs zs s hs)))
theorem open_reg {H : Type} {enc : TypeId × Value → H} {W : World} {base b0 : Nat} {held : Bool} {r : Reach} {v : Value} {d : DataW H} {ps : List MemPlace}
    (hval : Value.okWide Try.prog W r b0 33 v) (hd : DataW.Trod enc Try.prog W base (fun _ => true) held 33 v d ps) :
    ∃ (k : Int) (a : Option Addr) (m c : Nat) (zs : List ByteArray), v = .agg #[.int .i64 k, .slice a m c] ∧ SrcV W 1 (.slice a m c) m (zs.map .string) ∧ ∀ s ∈ zs, s.size ∈ DataW.weights Try.prog 33 d := by
  obtain ⟨cs, rfl, hcs⟩ := okWide_struct Try.underlying33 hval
  have h2 : Try.prog.cellsOf 33 = 2 := by kernel_rfl
  rw [h2] at hcs
  obtain ⟨l⟩ := cs
  match l, hcs with
  | [c0, c1], _ =>
  obtain ⟨fuel, hf⟩ := hd
  obtain ⟨k, a, m, c, zs, rfl, rfl, h3, h4⟩ := one_reg (by simpa [Value.cells] using hf)
  exact ⟨k, a, m, c, zs, rfl, h3, h4⟩
theorem sized_reg {H : Type} {ts : List TypeId} {ds : List (DataW H)} (h : (DataW.weightsEach Try.prog ts ds).all (· ≤ reachBytes) = true) {j : Nat} {d : DataW H} {zs : List ByteArray}
    (ht : ts[j]? = some 33) (hd : ds[j]? = some d) (hl : ∀ s ∈ zs, s.size ∈ DataW.weights Try.prog 33 d) : ∀ s ∈ zs, s.size ≤ 140737488355328 := by
  intro s hs
  have := List.all_eq_true.1 h _ (DataW.weights_mem_each ht hd s.size (hl s hs))
  have h2 : s.size ≤ reachBytes := by simpa using this
  exact Nat.le_trans h2 (Nat.le_of_lt reachBytes_lt)
/-- A list of bools that came in. -/
theorem src_bools {H : Type} {enc : TypeId × Value → H} {W : World} {base : Nat} {held : Bool} {a : Option Addr} {n c fuel : Nat} {x : DataW H × List MemPlace}
    (hf : DataW.trod enc Try.prog W base (fun _ => true) held fuel 48 [.slice a n c] = some x) : ∃ bs : List Bool, SrcV W 1 (.slice a n c) n (bs.map .bool) := by
  rcases Go.Deep.open_slice Try.underlying48 hf with ⟨hcs, _⟩ | ⟨y, l, c', m, k, D, Pl, hcs, _, hl, hm, hmm, hx, hel⟩
  · simp at hcs
    obtain ⟨rfl, rfl, rfl⟩ := hcs
    exact ⟨[], SrcV.nil _ 1⟩
  · simp at hcs
    obtain ⟨rfl, rfl, rfl⟩ := hcs
    have k1 : Try.prog.cellsOf 4 = 1 := by kernel_rfl
    obtain ⟨bs, hbs, hp⟩ := choose_list (p := fun i (d : Bool) => W.cell? (y.add i) = some (.bool d)) c (fun i hi => by
      obtain ⟨cs', h1, h2⟩ := hel i (by simp at hmm; omega)
      obtain ⟨d, rfl, _⟩ := DataW.trod_bool Try.underlying4 h2
      rw [k1] at h1
      obtain ⟨_, _, h3⟩ := World.cells?_some h1
      refine ⟨d, ?_⟩
      have := h3 0 (by omega)
      rw [Go.Deep.add_add] at this
      simpa using this)
    refine ⟨bs.take n, ?_⟩
    rw [List.map_take]
    refine SrcV.ofRead hl hm (by simpa using hbs) (fun i u hu => ?_) (fun u hu => by obtain ⟨s, _, rfl⟩ := List.mem_map.1 hu; rfl)
    rw [List.getElem?_map] at hu
    cases hq : bs[i]? with
    | none => rw [hq] at hu; cases hu
    | some d =>
      rw [hq] at hu
      cases hu
      exact hp i d hq

theorem one_act {H : Type} {enc : TypeId × Value → H} {W : World} {base : Nat} {held : Bool} {n : Nat} {cs : List Value} {x : DataW H × List MemPlace}
    (h : DataW.trod enc Try.prog W base (fun _ => true) held n 35 cs = some x) : ∃ a : ActD, cs = a.cells ∧ a.fits W ∧ Small a x.1 := by
  obtain ⟨ys, n', _, hx, hl, hyl, hf⟩ := DataW.trod_struct Try.underlying35 h
  obtain ⟨c0, c1, c2, c3, c4, rfl⟩ := cut5 (hl.trans (by kernel_rfl))
  have k1 : Try.prog.cellsOf 5 = 1 := by kernel_rfl
  have k2 : Try.prog.cellsOf 33 = 2 := by kernel_rfl
  have k3 : Try.prog.cellsOf 4 = 1 := by kernel_rfl
  match ys, hyl with
  | [y0, y1, y2, y3], _ =>
  have h0 : DataW.trod enc Try.prog W base (fun _ => true) held n' 5 [c0] = some y0 := by simpa [k1] using hf 0 _ rfl
  have h1 : DataW.trod enc Try.prog W base (fun _ => true) held n' 5 [c1] = some y1 := by simpa [k1] using hf 1 _ rfl
  have h2 : DataW.trod enc Try.prog W base (fun _ => true) held n' 33 [c2, c3] = some y2 := by simpa [k2] using hf 2 _ rfl
  have h3 : DataW.trod enc Try.prog W base (fun _ => true) held n' 4 [c4] = some y3 := by simpa [k3] using hf 3 _ rfl
  obtain ⟨what, e0, _, f0⟩ := DataW.trod_int Try.underlying5 h0
  obtain ⟨nm, e1, _, f1⟩ := DataW.trod_int Try.underlying5 h1
  obtain ⟨k, xa, xn, xc, zs, e2, e3, hz, hw⟩ := one_reg h2
  obtain ⟨q, e4, _⟩ := DataW.trod_bool Try.underlying4 h3
  simp only [List.cons.injEq, and_true] at e0 e1 e4
  subst e0 e1 e2 e3 e4
  refine ⟨⟨what, nm, k, xa, xn, xc, zs, q⟩, rfl, ⟨f0, f1, hz⟩, fun s hs => ?_⟩
  rw [hx, DataW.weights, Try.underlying35]
  exact DataW.weights_mem_each (j := 2) (t := 33) (d := y2.1) rfl rfl _ (hw s hs)

theorem mem_all {H : Type} {P : Program} {e : TypeId} : ∀ (l : List (DataW H)) (d : DataW H), d ∈ l → ∀ k ∈ d.weights P e, k ∈ DataW.weightsAll P e l
  | [], _, h, _, _ => by simp at h
  | x :: r, d, h, k, hk => by
    rw [DataW.weightsAll, List.mem_append]
    rcases List.mem_cons.1 h with rfl | h
    · exact .inl hk
    · exact .inr (mem_all r d h k hk)

def Told {H : Type} (ls : List ActD) (d : DataW H) : Prop := ∀ a ∈ ls, ∀ s ∈ a.zs, s.size ∈ DataW.weights Try.prog 22 d

/-- The script, read. -/
theorem src_acts {H : Type} {enc : TypeId × Value → H} {W : World} {base : Nat} {held : Bool} {a : Option Addr} {n c fuel : Nat} {x : DataW H × List MemPlace}
    (hf : DataW.trod enc Try.prog W base (fun _ => true) held fuel 22 [.slice a n c] = some x) : ∃ ls : List ActD, Script W a n c ls ∧ Told ls x.1 := by
  rcases Go.Deep.open_slice Try.underlying22 hf with ⟨hcs, _⟩ | ⟨y, l, c', m, k, D, Pl, hcs, _, hl, hm, hmm, hx, hel⟩
  · simp at hcs
    obtain ⟨rfl, rfl, rfl⟩ := hcs
    exact ⟨[], by simp [Script, maxLen], fun a h => by simp at h⟩
  · simp at hcs
    obtain ⟨rfl, rfl, rfl⟩ := hcs
    obtain ⟨ls, hls, hp⟩ := choose_list (p := fun i (d : ActD) => d.fits W ∧ (∀ f u, d.cells[f]? = some u → W.cell? (y.add (i * 5 + f)) = some u) ∧ Small d (D i)) n (fun i hi => by
      obtain ⟨cs', h1, h2⟩ := hel i (by simp at hmm; omega)
      obtain ⟨d, rfl, hd, hsm⟩ := one_act h2
      rw [show Try.prog.cellsOf 35 = 5 from by kernel_rfl] at h1
      obtain ⟨_, _, h3⟩ := World.cells?_some h1
      refine ⟨d, hd, fun f u hu => ?_, hsm⟩
      have h4 : f < 5 := by have := (List.getElem?_eq_some_iff.1 hu).1; simpa [ActD.cells] using this
      rw [← Go.Deep.add_add, h3 f h4, hu])
    refine ⟨ls, ⟨hl, hm, hls, fun j d hd => ?_⟩, fun d hd s hs => ?_⟩
    · obtain ⟨h1, h2, _⟩ := hp j d hd
      refine ⟨h1, ?_⟩
      have h0 : 0 < ls.length := by have := (List.getElem?_eq_some_iff.1 hd).1; omega
      obtain ⟨_, h3, _⟩ := hp 0 _ (List.getElem?_eq_getElem h0)
      have h4 : W.cell? y = some (.int .u8 ls[0].what) := by simpa [Addr.add] using h3 0 _ rfl
      obtain ⟨yb, yo, rfl⟩ := spot_none h4
      exact ⟨yb, yo, rfl, fun f u hu => by have := h2 f u hu; rwa [Addr.add_lit] at this⟩
    · obtain ⟨j, hj, rfl⟩ := List.getElem_of_mem hd
      obtain ⟨_, _, hsm⟩ := hp j _ (List.getElem?_eq_getElem hj)
      rw [hx, DataW.weights, Try.underlying22]
      refine List.mem_cons_of_mem _ (List.mem_append.2 (.inl (mem_all _ (D j) ?_ _ (hsm s hs))))
      exact List.mem_map.2 ⟨j, List.mem_range.2 (by omega), rfl⟩

theorem sized {H : Type} {ts : List TypeId} {ds : List (DataW H)} (h : (DataW.weightsEach Try.prog ts ds).all (· ≤ reachBytes) = true) {j : Nat} {e : TypeId} {d : DataW H} {ls : List ActD}
    (ht : ts[j]? = some 22) (hd : ds[j]? = some d) (hu : Try.prog.underlying 22 = some (.slice e)) (hl : Told ls d) : ∀ a ∈ ls, ∀ s ∈ a.zs, s.size ≤ 140737488355328 := by
  intro a ha s hs
  have := List.all_eq_true.1 h _ (DataW.weights_mem_each ht hd s.size (hl a ha s hs))
  have h2 : s.size ≤ reachBytes := by simpa using this
  exact Nat.le_trans h2 (Nat.le_of_lt reachBytes_lt)

end Go.Proofs.Ytgfajagajiofnaa.RActs
