/-
  Words and laws of my own on rows that a call owns, on what is appended, and on frames: no program in sight.
-/
import Derived.WalkKit
import Derived.Laws.CopyOwn
import Derived.Laws.AppendOwnNone
import Derived.Deep.AppendSrc
import Derived.Maps.AppendAt
import Derived.WalkSmall
set_option linter.unusedVariables false
set_option linter.unusedSimpArgs false
set_option maxRecDepth 100000
namespace Go.Proofs.Ytkddnknjjdenhaa.Vk
open Go Go.RowKit

/-- w' is w but for new blocks and for writes to the blocks of S. -/
structure Fr (S : Nat → Prop) (w w' : World) : Prop where
  os : w'.os = w.os
  tape : w'.tape = w.tape
  output : w'.output = w.output
  size : w.heap.size ≤ w'.heap.size
  block : ∀ k, k < w.heap.size → ¬ S k → w'.heap[k]? = w.heap[k]?

theorem Fr.refl (S : Nat → Prop) (w : World) : Fr S w w := ⟨rfl, rfl, rfl, Nat.le_refl _, fun _ _ _ => rfl⟩
theorem Fr.trans {S : Nat → Prop} {a b c : World} (h : Fr S a b) (k : Fr S b c) : Fr S a c :=
  ⟨k.os.trans h.os, k.tape.trans h.tape, k.output.trans h.output, Nat.le_trans h.size k.size, fun i hi hs => (k.block i (Nat.lt_of_lt_of_le hi h.size) hs).trans (h.block i hi hs)⟩
/-- The second step may write to what the first one has made. -/
theorem Fr.trans' {S S' : Nat → Prop} {a b c : World} (h : Fr S a b) (k : Fr S' b c) (hs : ∀ i, i < a.heap.size → S' i → S i) : Fr S a c :=
  ⟨k.os.trans h.os, k.tape.trans h.tape, k.output.trans h.output, Nat.le_trans h.size k.size, fun i hi hn => (k.block i (Nat.lt_of_lt_of_le hi h.size) (fun x => hn (hs i hi x))).trans (h.block i hi hn)⟩
theorem Fr.mono {S S' : Nat → Prop} {a b : World} (h : Fr S a b) (hs : ∀ i, i < a.heap.size → S i → S' i) : Fr S' a b :=
  ⟨h.os, h.tape, h.output, h.size, fun i hi hn => h.block i hi (fun x => hn (hs i hi x))⟩
theorem Fr.drew {S : Nat → Prop} {a w : World} (h : Fr S a w) : Fr S a w.drew := ⟨h.os, h.tape, h.output, h.size, h.block⟩
theorem Fr.drewN {S : Nat → Prop} {a w : World} (h : Fr S a w) (n : Nat) : Fr S a (w.drewN n) := ⟨h.os, h.tape, h.output, h.size, h.block⟩
theorem Fr.alloc {S : Nat → Prop} {a w : World} (h : Fr S a w) (o : Obj) : Fr S a (w.alloc o) :=
  h.trans ⟨rfl, rfl, rfl, by simp, fun k hk _ => Below.heap_alloc _ _ _ hk⟩
theorem Fr.setCell {S : Nat → Prop} {a w : World} (h : Fr S a w) {p : Addr} (hp : p.block < a.heap.size → S p.block) (u : Value) : Fr S a (w.setCell p u) :=
  ⟨h.os, h.tape, h.output, by have := h.size; simpa [World.setCell] using this, fun k hk hs => (Below.heap_setCell _ _ _ _ (fun e => by subst e; exact hs (hp hk))).trans (h.block k hk hs)⟩
theorem Fr.grown {S : Nat → Prop} {a w w' : World} {row : Option Nat} (h : Fr S a w) (hg : w.grownBy w' row) (hr : ∀ k, row = some k → k < a.heap.size → S k) : Fr S a w' :=
  ⟨hg.os.trans h.os, hg.tape.trans h.tape, hg.output.trans h.output, Nat.le_trans h.size hg.size,
    fun k hk hs => (hg.block k (Nat.lt_of_lt_of_le hk h.size) (fun e => hs (hr k e.symm hk))).trans (h.block k hk hs)⟩
theorem Fr.below {S : Nat → Prop} {B : Nat} {a b : World} (h : Fr S a b) (hB : B ≤ a.heap.size) (hs : ∀ k, S k → B ≤ k) : Below B a b :=
  ⟨h.os, h.tape, h.output, h.size, fun k hk => h.block k (by omega) (fun x => by have := hs k x; omega)⟩
theorem Fr.ofBelow {a b : World} (h : Below a.heap.size a b) (S : Nat → Prop) : Fr S a b := ⟨h.os, h.tape, h.output, h.size, fun k hk _ => h.block k hk⟩
theorem Fr.cell {S : Nat → Prop} {a b : World} (h : Fr S a b) {p : Addr} {v : Value} (hv : a.cell? p = some v) (hs : ¬ S p.block) : b.cell? p = some v :=
  (World.cell?_of_block (h.block p.block (World.block_lt_of_cell? a p hv) hs)).trans hv

/-- What a slice value yields: m elements of `size` cells each, the cells `news`. -/
def SrcV (w : World) (size : Nat) (x : Value) (m : Nat) (news : List Value) : Prop :=
  news.length = m * size ∧ (∀ u ∈ news, u.oneCell' = true) ∧ m ≤ maxLen ∧
  ((∃ ao, x = .slice ao 0 0 ∧ m = 0) ∨ ∃ b off c, x = .slice (some ⟨b, off, none⟩) m c ∧ m ≤ c ∧ c ≤ maxLen ∧ ∀ j u, news[j]? = some u → w.cell? ⟨b, off + j, none⟩ = some u)

theorem SrcV.nil (w : World) (size : Nat) : SrcV w size (.slice none 0 0) 0 [] := ⟨by simp, by simp, by simp [maxLen], .inl ⟨none, rfl, rfl⟩⟩

theorem SrcV.drew {w : World} {size : Nat} {x : Value} {m : Nat} {news : List Value} (h : SrcV w size x m news) : SrcV w.drew size x m news := h

/-- The block of a slice value that lies anywhere. -/
def blk : Value → Option Nat
  | .slice (some a) _ _ => some a.block
  | _ => none

theorem SrcV.fr {w w' : World} {S : Nat → Prop} {size : Nat} {x : Value} {m : Nat} {news : List Value} (h : SrcV w size x m news) (hf : Fr S w w') (hs : 0 < m → ∀ k, blk x = some k → ¬ S k) : SrcV w' size x m news := by
  refine ⟨h.1, h.2.1, h.2.2.1, ?_⟩
  rcases h.2.2.2 with hn | ⟨b, off, c, rfl, hc1, hc2, hc⟩
  · exact .inl hn
  · refine .inr ⟨b, off, c, rfl, hc1, hc2, fun j u hj => hf.cell (hc j u hj) (hs ?_ b rfl)⟩
    have hl := h.1
    have := (List.getElem?_eq_some_iff.1 hj).1
    rcases Nat.eq_zero_or_pos m with h0 | h0
    · rw [h0, Nat.zero_mul] at hl; omega
    · exact h0

theorem SrcV.ofOwn {w : World} {base : Nat} {e : TypeId} {size : Nat} {v : Value} {n : Nat} {xs : List Value} (h : w.ownsRow base e size v n xs) (h1 : ∀ u ∈ xs, u.oneCell' = true) : SrcV w size v n xs := by
  refine ⟨h.1, h1, ?_, ?_⟩
  · rcases h.2 with ⟨_, rfl⟩ | ⟨g, cap, cur, _, _, _, hn, hm, _⟩
    · simp [maxLen]
    · exact Nat.le_trans hn hm
  · rcases h.2 with hn | ⟨g, cap, cur, hv, hb, hg, hnc, hcm, hcs, htake⟩
    · exact .inl ⟨none, hn⟩
    · refine .inr ⟨g, 0, cap, hv, hnc, hcm, fun j u hu => ?_⟩
      have := h.cells (g := g) (by rw [hv]; rfl) j u hu
      rwa [Addr.add_lit] at this

theorem SrcV.below {w w' : World} {size : Nat} {x : Value} {m : Nat} {news : List Value} (h : SrcV w size x m news) (hb : Below w.heap.size w w') : SrcV w' size x m news :=
  h.fr (Fr.ofBelow hb (fun _ => False)) (by simp)

/-- A row that has just been laid. -/
theorem SrcV.lit (w : World) (cs : Array Value) (t : TypeId) (n : Nat) (hn : cs.size = n) (h1 : ∀ u ∈ cs.toList, u.oneCell' = true) (hm : n ≤ maxLen) : SrcV (w.alloc (.cells cs t)) 1 (.slice (some ⟨w.heap.size, 0, none⟩) n n) n cs.toList := by
  refine ⟨by simp [hn], h1, hm, .inr ⟨w.heap.size, 0, n, rfl, Nat.le_refl _, hm, fun j u hj => ?_⟩⟩
  rw [cell_of_row _ _ _ _ _ _ (heap_alloc_new w _)]
  simpa using hj

theorem SrcV.take {w : World} {a : Addr} {n c k : Nat} {xs : List Value} (h : SrcV w 1 (.slice (some a) n c) n xs) (hk : k ≤ n) : SrcV w 1 (.slice (some a) k c) k (xs.take k) := by
  obtain ⟨h1, h2, h3, h4⟩ := h
  rcases h4 with ⟨ao, h, h0⟩ | ⟨b, o, c', h, hc1, hc2, hc⟩
  · simp only [Value.slice.injEq] at h
    obtain ⟨rfl, rfl, rfl⟩ := h
    obtain rfl : k = 0 := by omega
    exact ⟨by simp, by simp, by omega, .inl ⟨_, rfl, rfl⟩⟩
  · simp only [Value.slice.injEq, Option.some.injEq, true_and] at h
    obtain ⟨rfl, rfl⟩ := h
    refine ⟨by simp; omega, fun u hu => h2 u (List.mem_of_mem_take hu), by omega, .inr ⟨b, o, c, rfl, by omega, hc2, fun j u hj => ?_⟩⟩
    rw [List.getElem?_take] at hj
    split at hj
    · exact hc j u hj
    · cases hj

theorem SrcV.drop {w : World} {b o n c k : Nat} {xs : List Value} (h : SrcV w 1 (.slice (some ⟨b, o, none⟩) n c) n xs) (hk : k ≤ n) :
    ∃ A : Addr, (if c = k then (some ⟨b, o, none⟩ : Option Addr) else some ⟨b, o + k, none⟩) = some A ∧ SrcV w 1 (.slice (some A) (n - k) (c - k)) (n - k) (xs.drop k) := by
  obtain ⟨h1, h2, h3, h4⟩ := h
  rcases h4 with ⟨ao, h, h0⟩ | ⟨b', o', c', h, hc1, hc2, hc⟩
  · simp only [Value.slice.injEq] at h
    obtain ⟨rfl, rfl, rfl⟩ := h
    obtain rfl : k = 0 := by omega
    have hx : xs = [] := List.eq_nil_of_length_eq_zero (by omega)
    subst hx
    exact ⟨_, rfl, ⟨by simp, by simp, by omega, .inl ⟨_, rfl, rfl⟩⟩⟩
  · simp only [Value.slice.injEq, Option.some.injEq, Addr.mk.injEq, and_true, true_and] at h
    obtain ⟨⟨rfl, rfl⟩, rfl⟩ := h
    by_cases hck : c = k
    · refine ⟨_, if_pos hck, ⟨by simp; omega, fun u hu => h2 u (List.mem_of_mem_drop hu), by omega, .inr ⟨b, o, c - k, rfl, by omega, by omega, fun j u hj => ?_⟩⟩⟩
      have := (List.getElem?_eq_some_iff.1 hj).1
      simp at this
      omega
    · refine ⟨_, if_neg hck, ⟨by simp; omega, fun u hu => h2 u (List.mem_of_mem_drop hu), by omega, .inr ⟨b, o + k, c - k, rfl, by omega, by omega, fun j u hj => ?_⟩⟩⟩
      rw [List.getElem?_drop] at hj
      rw [Nat.add_assoc]
      exact hc (k + j) u hj

theorem SrcV.blkLt {w : World} {size : Nat} {x : Value} {m : Nat} {news : List Value} (h : SrcV w size x m news) (hm : 0 < m * size) (k : Nat) (hk : blk x = some k) : k < w.heap.size := by
  obtain ⟨h1, h2, h3, h4⟩ := h
  rcases h4 with ⟨ao, rfl, rfl⟩ | ⟨b, o, c', rfl, hc1, hc2, hc⟩
  · omega
  · simp only [blk, Option.some.injEq] at hk
    subst hk
    exact World.block_lt_of_cell? w _ (hc 0 _ (List.getElem?_eq_getElem (by omega)))

theorem own_shape {w : World} {base : Nat} {e : TypeId} {size : Nat} {v : Value} {n : Nat} {xs : List Value} (h : w.ownsRow base e size v n xs) : ∃ a c, v = .slice a n c := by
  rcases h.2 with ⟨rfl, rfl⟩ | ⟨g, cap, cur, rfl, _⟩
  · exact ⟨_, _, rfl⟩
  · exact ⟨_, _, rfl⟩

/-- What a step has made of an owned row's block: the same, or a new one. -/
def NewRow (w : World) (v v' : Value) : Prop := v'.ownBlock = v.ownBlock ∨ ∃ g, v'.ownBlock = some g ∧ w.heap.size ≤ g

/-- append(own, x...) of whatever x yields. -/
theorem run_append_srcv {P : Program} (w : World) (ty : TypeId) (t : TypeId)
    (base : Nat) (e : TypeId) (i : TypeInfo) (z : Value) (size bytes : Nat) (ht : P.underlying t = some (.slice e)) (hi : P.info? e = some i) (hz : i.zero = some z)
    (hsize : i.size = size) (hby : i.bytes = bytes) (hzs : z.cells.size = size) (hsz : 0 < size)
    (v : Value) (n : Nat) (xs : List Value) (hown : w.ownsRow base e size v n xs)
    (xv : Value) (m : Nat) (news : List Value) (hsrc : SrcV w size xv m news)
    (h63 : n + m ≤ maxLen) (hbytes : (n + m) * bytes ≤ 140737488355328) (hbase : base ≤ w.heap.size) :
    ∃ b' c' w', (Builtin.append_ #[t, t] ty #[v, xv]).run P w = .ok (.slice b' (n + m) c') w' ∧ w'.ownsRow base e size (.slice b' (n + m) c') (n + m) (xs ++ news) ∧ w.grownBy w' v.ownBlock ∧ NewRow w v (.slice b' (n + m) c') := by
  obtain ⟨hl, h1, _, hc⟩ := hsrc
  rcases hc with ⟨ao, rfl, rfl⟩ | ⟨b, off, c, rfl, _, _, hc⟩
  · have hnil : news = [] := List.eq_nil_of_length_eq_zero (by simpa using hl)
    subst hnil
    cases ao with
    | none =>
      have hr := run_append_owned_none (P := P) (w := w) base t ty e i size ht hi v n xs hown
      obtain ⟨b', c', rfl⟩ := own_shape hown
      exact ⟨b', c', w, hr, by simpa using hown, ⟨rfl, rfl, rfl, Nat.le_refl _, fun _ _ _ => rfl⟩, .inl rfl⟩
    | some a =>
      rcases hown.2 with ⟨rfl, rfl⟩ | ⟨g, cap, cur, rfl, hbg, hg, hnc, hcm, hcs, htake⟩
      · obtain ⟨v', w', hr, h2, h3, h4⟩ := run_append_own (P := P) w base t ty e i z size bytes ht hi hz hsize hby hzs hsz _ 0 xs hown a 0 0 [] (by simp) (by simp) (by simp) h63 hbytes hbase
        obtain rfl := h4.2 ⟨rfl, rfl⟩
        exact ⟨none, 0, w', hr, h2, h3, .inl rfl⟩
      · obtain ⟨w', hr, h2, h3⟩ := run_append_fits (P := P) w base t ty e i size ht hi hsize g n cap xs hown a 0 0 [] (by simp) (by simp) (by simp) (by omega)
        exact ⟨_, _, w', hr, h2, h3, .inl rfl⟩
  · have hnews : ∀ j u, news[j]? = some u → w.cell? ((⟨b, off, none⟩ : Addr).add j) = some u := fun j u hj => by rw [Addr.add_lit]; exact hc j u hj
    have grow : ∀ (bs : Option Addr) (cap : Nat) (hv : v = .slice bs n cap) (hroom : cap < n + m) (hncap : n ≤ cap) (hold : (Builtin.firstCells i.size n (.slice bs n cap)).run P w.drew = .ok xs.toArray w.drew), ∃ b' c' w', (Builtin.append_ #[t, t] ty #[v, .slice (some ⟨b, off, none⟩) m c]).run P w = .ok (.slice b' (n + m) c') w' ∧ w'.ownsRow base e size (.slice b' (n + m) c') (n + m) (xs ++ news) ∧ w.grownBy w' v.ownBlock ∧ NewRow w v (.slice b' (n + m) c') := by
      intro bs cap hv hroom hncap hold
      subst hsize
      have hr := run_append_grow_src w t t ty e i z ht hi hz bs n cap xs hold (.slice (some ⟨b, off, none⟩) m c) m news (Src.ofSlice w ht ⟨b, off, none⟩ m c news hl hnews h1) hroom (by simp only [maxLen] at h63; omega) (growslice_fits hroom (by rw [hby]; exact hbytes))
      rw [hv]
      have hge := grownCap_ge w (n + m) cap e
      refine ⟨_, _, _, hr, ⟨by simp [hown.1, hl, Nat.add_mul], .inr ⟨w.heap.size, _, _, rfl, hbase, heap_alloc_new w.drew _, hge, grownCap_le_maxLen w _ _ _ h63, ?_, ?_⟩⟩, ?_, .inr ⟨_, rfl, Nat.le_refl _⟩⟩
      · have e1 : (xs ++ news).length = (n + m) * i.size := by simp [hown.1, hl, Nat.add_mul]
        rw [Array.size_append, List.size_toArray, e1]
        simp only [Builtin.zeroCells]
        simp [hzs]
        rw [← Nat.add_mul]
        congr 1; omega
      · rw [Array.toList_append, List.toList_toArray]
        exact List.take_left' (by simp [hown.1, hl, Nat.add_mul])
      · exact ⟨rfl, rfl, rfl, by simp, fun k hk _ => Below.heap_alloc w.drew _ k hk⟩
    rcases hown.2 with ⟨rfl, rfl⟩ | ⟨g, cap, cur, rfl, hbg, hg, hnc, hcm, hcs, htake⟩
    · by_cases hm0 : m = 0
      · subst hm0
        obtain ⟨v', w', hr, h2, h3, h4⟩ := run_append_own (P := P) w base t ty e i z size bytes ht hi hz hsize hby hzs hsz _ 0 xs hown ⟨b, off, none⟩ 0 c news hl hnews h1 h63 hbytes hbase
        obtain rfl := h4.2 ⟨rfl, rfl⟩
        exact ⟨none, 0, w', hr, h2, h3, .inl rfl⟩
      · have hx : xs = [] := List.eq_nil_of_length_eq_zero (by simpa using hown.1)
        subst hx
        exact grow none 0 rfl (by omega) (Nat.le_refl _) (run_firstCells_none w.drew i.size 0 0 0)
    · by_cases hroom : n + m ≤ cap
      · obtain ⟨w', hr, h2, h3⟩ := run_append_fits (P := P) w base t ty e i size ht hi hsize g n cap xs hown ⟨b, off, none⟩ m c news hl hnews h1 hroom
        exact ⟨_, _, w', hr, h2, h3, .inl rfl⟩
      · refine grow _ cap rfl (by omega) hnc ?_
        exact run_firstCells_some w.drew i.size n ⟨g, 0, none⟩ n cap xs (by rw [hsize]; exact hown.1) (fun j u hu => by simpa using hown.cells (g := g) rfl j u hu)

/-- .. as a law for the walk. -/
theorem append_srcv {P : Program} (w : World) {ops : Array Oper} {rest : List Oper} {o : Oper} {a : Act} {Q : Exit → Act → World → Prop} (hgd : o.guard = none) (s x : Operand) (t : TypeId)
    (ho : o.op = .call { callee := .builtin .append, args := #[s, x], argTypes := #[t, t] })
    (base : Nat) (e : TypeId) (i : TypeInfo) (z : Value) (size bytes : Nat) (ht : P.underlying t = some (.slice e)) (hi : P.info? e = some i) (hz : i.zero = some z)
    (hsize : i.size = size) (hby : i.bytes = bytes) (hzs : z.cells.size = size) (hsz : 0 < size)
    (v : Value) (n : Nat) (xs : List Value) (hs : a.eval s = v) (hown : w.ownsRow base e size v n xs)
    (xv : Value) (m : Nat) (news : List Value) (hx : a.eval x = xv) (hsrc : SrcV w size xv m news)
    (h63 : n + m ≤ maxLen) (hbytes : (n + m) * bytes ≤ 140737488355328) (hbase : base ≤ w.heap.size)
    (h : ∀ b' c' w', w'.ownsRow base e size (.slice b' (n + m) c') (n + m) (xs ++ news) → w.grownBy w' v.ownBlock → NewRow w v (.slice b' (n + m) c') → wpList P ops Q rest (a.put o.dst (.slice b' (n + m) c')) w') : wpList P ops Q (o :: rest) a w := by
  refine wpList_plain hgd fun K hK => ?_
  obtain ⟨b', c', w', hr, h2, h3, h4⟩ := run_append_srcv (P := P) w o.type t base e i z size bytes ht hi hz hsize hby hzs hsz v n xs hown xv m news hsrc h63 hbytes hbase
  unfold Oper.wp
  simp [execOp, ho, resolve, invoke, builtin, hs, hx, hr, Result.andThen]
  exact hK _ _ (h b' c' w' h2 h3 h4)

/-- .. and as one step of a region that draws its order. -/
theorem step_append_srcv {P : Program} {ops : Array Oper} {o : Oper} {a : Act} {w : World} {K : Act → World → Prop} {Q : Exit → Act → World → Prop} {X : Prop} (hgd : o.guard = none) (s x : Operand) (t : TypeId)
    (ho : o.op = .call { callee := .builtin .append, args := #[s, x], argTypes := #[t, t] })
    (base : Nat) (e : TypeId) (i : TypeInfo) (z : Value) (size bytes : Nat) (ht : P.underlying t = some (.slice e)) (hi : P.info? e = some i) (hz : i.zero = some z)
    (hsize : i.size = size) (hby : i.bytes = bytes) (hzs : z.cells.size = size) (hsz : 0 < size)
    (v : Value) (n : Nat) (xs : List Value) (hs : a.eval s = v) (hown : w.ownsRow base e size v n xs)
    (xv : Value) (m : Nat) (news : List Value) (hx : a.eval x = xv) (hsrc : SrcV w size xv m news)
    (h63 : n + m ≤ maxLen) (hbytes : (n + m) * bytes ≤ 140737488355328) (hbase : base ≤ w.heap.size)
    (h : ∀ b' c' w', w'.ownsRow base e size (.slice b' (n + m) c') (n + m) (xs ++ news) → w.grownBy w' v.ownBlock → NewRow w v (.slice b' (n + m) c') → K (a.put o.dst (.slice b' (n + m) c')) w') :
    if Region.wanted o (yielded ops a.tmps) = true then Oper.wp P o a w K Q else X := by
  have hw : Region.wanted o (yielded ops a.tmps) = true := by simp [Region.wanted, hgd]
  rw [if_pos hw]
  obtain ⟨b', c', w', hr, h2, h3, h4⟩ := run_append_srcv (P := P) w o.type t base e i z size bytes ht hi hz hsize hby hzs hsz v n xs hown xv m news hsrc h63 hbytes hbase
  unfold Oper.wp
  simp [execOp, ho, resolve, invoke, builtin, hs, hx, hr, Result.andThen]
  exact h b' c' w' h2 h3 h4

theorem map_str (ls : List ByteArray) (j : Nat) (h : j < (ls.map Value.string).length) : ∃ st, (ls.map Value.string)[j]? = some (.string st) :=
  ⟨ls[j]'(by simpa using h), by rw [List.getElem?_eq_getElem h, List.getElem_map]⟩

theorem map_int (ls : List Int) (j : Nat) (h : j < (ls.map (Value.int .i64)).length) : ∃ st, (ls.map (Value.int .i64))[j]? = some (.int .i64 st) :=
  ⟨ls[j]'(by simpa using h), by rw [List.getElem?_eq_getElem h, List.getElem_map]⟩

theorem all_str {vals : List Value} (h : ∀ u ∈ vals, ∃ s, u = .string s) (j : Nat) (hj : j < vals.length) : ∃ st, vals[j]? = some (.string st) := by
  obtain ⟨s, hs⟩ := h _ (List.getElem_mem hj)
  exact ⟨s, by rw [List.getElem?_eq_getElem hj, hs]⟩

theorem str_map (ls : List ByteArray) : ∀ u ∈ ls.map Value.string, ∃ s, u = .string s := by
  intro u hu
  obtain ⟨s, _, rfl⟩ := List.mem_map.1 hu
  exact ⟨s, rfl⟩

theorem str_parts (ls ms : List ByteArray) (q : Nat) : ∀ u ∈ (ls.map Value.string).take q ++ ms.map Value.string ++ (ls.map Value.string).drop q, ∃ s, u = .string s := by
  intro u hu
  simp only [List.mem_append] at hu
  rcases hu with (hu | hu) | hu
  · exact str_map ls u (List.mem_of_mem_take hu)
  · exact str_map ms u hu
  · exact str_map ls u (List.mem_of_mem_drop hu)

theorem spot_none {w : World} {a : Addr} {v : Value} (h : w.cell? a = some v) : ∃ b o, a = ⟨b, o, none⟩ := by
  obtain ⟨b, o, sp⟩ := a
  cases sp with
  | none => exact ⟨b, o, rfl⟩
  | some s =>
    unfold World.cell? at h
    split at h
    · simp at h
    · cases h

/-- A slice that came in, read to its capacity. -/
theorem SrcV.ofRead {w : World} {y : Addr} {n c : Nat} {all : List Value} (hl : n ≤ c) (hm : c ≤ maxLen) (hz : all.length = c) (hcell : ∀ i u, all[i]? = some u → w.cell? (y.add i) = some u) (h1 : ∀ u ∈ all, u.oneCell' = true) :
    SrcV w 1 (.slice (some y) n c) n (all.take n) := by
  refine ⟨by simp; omega, fun u hu => h1 u (List.mem_of_mem_take hu), by omega, ?_⟩
  by_cases h0 : c = 0
  · subst h0
    obtain rfl : n = 0 := by omega
    exact .inl ⟨_, rfl, rfl⟩
  · have h := hcell 0 _ (List.getElem?_eq_getElem (by omega))
    have h' : w.cell? y = some all[0] := by simpa [Addr.add] using h
    obtain ⟨b, o, rfl⟩ := spot_none h'
    refine .inr ⟨b, o, c, rfl, hl, hm, fun j u hj => ?_⟩
    rw [List.getElem?_take] at hj
    split at hj
    · have := hcell j u hj
      rwa [Addr.add_lit] at this
    · cases hj

/-- A list of package vec: the struct's block p holds a slice that owns its row (block r, if there is one): n elements, the cells xs; both lie from base on. -/
def IsVec (w : World) (base : Nat) (T E : TypeId) (size : Nat) (p : Nat) (r : Option Nat) (n : Nat) (xs : List Value) : Prop :=
  ∃ b c, w.heap[p]? = some (.cells #[.slice b n c] T (0, 0)) ∧ base ≤ p ∧ w.ownsRow base E size (.slice b n c) n xs ∧ (Value.slice b n c).ownBlock = r ∧ r ≠ some p

theorem ownsRow_fr {w w' : World} {base : Nat} {e : TypeId} {size : Nat} {v : Value} {n : Nat} {xs : List Value} {S : Nat → Prop} (h : w.ownsRow base e size v n xs) (hf : Fr S w w') (hr : ∀ k, v.ownBlock = some k → ¬ S k) : w'.ownsRow base e size v n xs := by
  refine ⟨h.1, ?_⟩
  rcases h.2 with hn | ⟨g, cap, cur, rfl, hb, hgg, rest⟩
  · exact .inl hn
  · exact .inr ⟨g, cap, cur, rfl, hb, (hf.block g (Array.getElem?_eq_some_iff.1 hgg).1 (hr g rfl)).trans hgg, rest⟩

theorem IsVec.fr {w w' : World} {base : Nat} {T E : TypeId} {size p : Nat} {r : Option Nat} {n : Nat} {xs : List Value} {S : Nat → Prop} (h : IsVec w base T E size p r n xs) (hf : Fr S w w') (hp : ¬ S p) (hr : ∀ k, r = some k → ¬ S k) : IsVec w' base T E size p r n xs := by
  obtain ⟨b, c, h1, h2, h3, h4, h5⟩ := h
  have hlt := (Array.getElem?_eq_some_iff.1 h1).1
  exact ⟨b, c, (hf.block p hlt hp).trans h1, h2, ownsRow_fr h3 hf (fun k hk => hr k (h4 ▸ hk)), h4, h5⟩

theorem ownsRow_mono {w : World} {base base' : Nat} {e : TypeId} {size : Nat} {v : Value} {n : Nat} {xs : List Value} (h : w.ownsRow base e size v n xs) (hb : base' ≤ base) : w.ownsRow base' e size v n xs := by
  refine ⟨h.1, ?_⟩
  rcases h.2 with hn | ⟨g, cap, cur, rfl, hbb, rest⟩
  · exact .inl hn
  · exact .inr ⟨g, cap, cur, rfl, by omega, rest⟩

theorem IsVec.mono {w : World} {base base' : Nat} {T E : TypeId} {size p : Nat} {r : Option Nat} {n : Nat} {xs : List Value} (h : IsVec w base T E size p r n xs) (hb : base' ≤ base) : IsVec w base' T E size p r n xs := by
  obtain ⟨b, c, h1, h2, h3, h4, h5⟩ := h
  exact ⟨b, c, h1, by omega, ownsRow_mono h3 hb, h4, h5⟩

theorem IsVec.lt {w : World} {base : Nat} {T E : TypeId} {size p : Nat} {r : Option Nat} {n : Nat} {xs : List Value} (h : IsVec w base T E size p r n xs) : base ≤ p ∧ p < w.heap.size := by
  obtain ⟨b, c, h1, h2, h3, h4, h5⟩ := h
  exact ⟨h2, (Array.getElem?_eq_some_iff.1 h1).1⟩

theorem IsVec.rowLt {w : World} {base : Nat} {T E : TypeId} {size p : Nat} {r : Option Nat} {n : Nat} {xs : List Value} (h : IsVec w base T E size p r n xs) (k : Nat) (hk : r = some k) : base ≤ k ∧ k < w.heap.size := by
  obtain ⟨b, c, h1, h2, h3, h4, h5⟩ := h
  exact h3.lt k (h4.trans hk)

end Go.Proofs.Ytkddnknjjdenhaa.Vk
