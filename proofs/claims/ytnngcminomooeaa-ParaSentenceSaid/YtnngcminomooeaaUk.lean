/-
  A region that draws its order, with a fork of three: three operations that make memory are ready, any may come first. No program in sight.
-/
import Derived.Test.YtnngcminomooeaaQu
import Derived.Test.YtnngcminomooeaaRnd
set_option linter.unusedVariables false
set_option linter.unusedSimpArgs false
set_option maxRecDepth 100000
namespace Go.Proofs.Ytnngcminomooeaa.Vs
open Go Go.RowKit Go.Proofs.Ytnngcminomooeaa.Vk

variable {S : Nat → Prop}
section
variable {P : Program} {ops : Array Oper} {md : Region.Mode}
theorem AnyG.three {T : Nat → Bool} {Q : Exit → Act → World → Prop} {i j k f : Nat} {d : Array Bool} {a : Act} {w : World} (hr : Region.ready md ops d = [i, j, k])
    (hi : ∀ W, Below w.heap.size w W → gOp P ops i (fun a' W' => Fr S W W' ∧ AnyG S P md ops T Q f (d.setIfInBounds i true) a' W') a W)
    (hj : ∀ W, Below w.heap.size w W → gOp P ops j (fun a' W' => Fr S W W' ∧ AnyG S P md ops T Q f (d.setIfInBounds j true) a' W') a W)
    (hk : ∀ W, Below w.heap.size w W → gOp P ops k (fun a' W' => Fr S W W' ∧ AnyG S P md ops T Q f (d.setIfInBounds k true) a' W') a W) : AnyG S P md ops T Q (f + 1) d a w := fun W hW => by
  refine ⟨fun h0 => (by rw [hr] at h0; cases h0), fun m hm => ?_⟩
  rw [hr] at hm
  simp only [List.mem_cons, List.not_mem_nil, or_false] at hm
  rcases hm with rfl | rfl | rfl
  · exact gOp_mono (fun a' W' h => ⟨.inr h.1, h.2⟩) (hi W hW)
  · exact gOp_mono (fun a' W' h => ⟨.inr h.1, h.2⟩) (hj W hW)
  · exact gOp_mono (fun a' W' h => ⟨.inr h.1, h.2⟩) (hk W hW)
variable {late : List Nat} {Q : Exit → Act → World → Prop}
def Tr.fork3 (pre : Path) (i j k : Nat) (p q s : Tr S P md ops late Q) : Tr S P md ops late Q where
  len := pre.length + (p.len + 1)
  ok := fun d => goB md ops late pre d && decide (Region.ready md ops (doneP pre d) = [i, j, k]) && decide (p.len = q.len) && decide (p.len = s.len) && p.ok ((doneP pre d).setIfInBounds i true) && q.ok ((doneP pre d).setIfInBounds j true) && s.ok ((doneP pre d).setIfInBounds k true)
  wp := wpPath S P ops (fun a w => (∀ W, Below w.heap.size w W → gOp P ops i (fun a' W' => Fr S W W' ∧ p.wp a' W') a W) ∧ (∀ W, Below w.heap.size w W → gOp P ops j (fun a' W' => Fr S W W' ∧ q.wp a' W') a W) ∧ (∀ W, Below w.heap.size w W → gOp P ops k (fun a' W' => Fr S W W' ∧ s.wp a' W') a W)) pre
  grow := fun a w W h hb => wpPath_grow pre h hb
  sound := fun hsel d a w hB h => by
    simp only [Bool.and_eq_true, decide_eq_true_eq] at hB
    obtain ⟨⟨⟨⟨⟨⟨h1, h2⟩, h3⟩, h3'⟩, h4⟩, h5⟩, h6⟩ := hB
    refine AnyG.go hsel late (p.len + 1) pre d a w h1 (wpPath_mono (fun a' w' hh => ?_) pre h)
    refine AnyG.three h2 (fun W hW => gOp_mono (fun a'' W'' h7 => ⟨h7.1, p.sound hsel _ _ _ h4 h7.2⟩) (hh.1 W hW)) (fun W hW => gOp_mono (fun a'' W'' h7 => ⟨h7.1, ?_⟩) (hh.2.1 W hW)) (fun W hW => gOp_mono (fun a'' W'' h7 => ⟨h7.1, ?_⟩) (hh.2.2 W hW))
    · have h8 := q.sound hsel _ _ _ h5 h7.2
      rwa [← h3] at h8
    · have h8 := s.sound hsel _ _ _ h6 h7.2
      rwa [← h3'] at h8
theorem wpTr_fork3 {a : Act} {w : World} {pre : Path} {i j k : Nat} {p q s : Tr S P md ops late Q} (h : wpPath S P ops (fun a w => (∀ W, Below w.heap.size w W → gOp P ops i (fun a' W' => Fr S W W' ∧ p.wp a' W') a W) ∧ (∀ W, Below w.heap.size w W → gOp P ops j (fun a' W' => Fr S W W' ∧ q.wp a' W') a W) ∧ (∀ W, Below w.heap.size w W → gOp P ops k (fun a' W' => Fr S W W' ∧ s.wp a' W') a W)) pre a w) : (Tr.fork3 pre i j k p q s : Tr S P md ops late Q).wp a w := h
end
section
variable {P : Program} {l : List Oper} {a : Act} {w : World} {k : Nat}
/-- A store in a path, into a block of S. -/
theorem wpPath_put {L : Act → World → Prop} {r : Path} (hk : (l[k]?).isSome = true) (h : ∀ W, Below w.heap.size w W → ∃ W', Region.wanted (opOf l k) (yielded l.toArray a.tmps) = true ∧ (execOp a.eval (opOf l k)).run P W = .ok .skip W' ∧ Fr S W W' ∧
      wpPath S P l.toArray L r (a.put (opOf l k).dst undef) W') : wpPath S P l.toArray L ((k, 1) :: r) a w := fun W hW => by
  obtain ⟨W', h1, h2, h3, h4⟩ := h W hW
  exact gOp_skip (op_is hk) h1 h2 ⟨h3, h4⟩
/-- A call as one way of a fork. -/
theorem fork_call {f : FuncId} {args : Array Value} {K : Act → World → Prop} {W : World} (hk : (l[k]?).isSome = true) (hw : Region.wanted (opOf l k) (yielded l.toArray a.tmps) = true) (hr : (execOp a.eval (opOf l k)).run P W = .ok (.enter f args) W)
    (h : Calls P f args W fun e W' => ∃ v, e = .returned v ∧ K (a.put (opOf l k).dst v) W') : gOp P l.toArray k K a W := gOp_call (op_is hk) hw hr h
end
/-- A path through a region in a round of a range over a function. -/
theorem wpIn_round_seg {lp n : Nat} {P : Program} {id : Nat} {Q : Exit → Act → World → Prop} {a : Act} {w : World} {l : List Oper} (s : List Nat) (r : Path) (hm : P.follows .mixedOrders = true)
    (hd : (l.toArray.all fun o => match o.op with | .defer _ => false | _ => true) = true) (hQ : ¬ LetsOut Q)
    (hB : pathAllB .any l.toArray (s.map (fun i => (i, 0)) ++ r) = true) (z : Nat) (hz : a.tmps.size = z) (hs : (((s.map fun i => (l[i]?).isSome).all fun b => b) && dstB z (s.map (opOf l))) = true)
    (h : ∃ A : Act, (∀ C, Grows S w C → wpQuiet P l.toArray (fun W => ∃ x : In C, W = x.W) (fun a' => a' = A) (s.map (opOf l)) a) ∧ wpPath S P l.toArray (fun a' W => Q .normal a' W) r A w) : (Code.region id l.toArray true).wpIn (Fence.wide.inRound lp) n P Q a w := by
  rw [Bool.and_eq_true] at hs
  obtain ⟨A, hA, h2⟩ := h
  have hp := wpPath_seg s _ a (pick_map s hs.1) (by rw [hz]; exact hs.2) hA h2
  simp only [pathAllB, Bool.and_eq_true, decide_eq_true_eq] at hB
  obtain ⟨⟨hsel, hpn⟩, hB⟩ := hB
  have H := AnyG.path hsel _ _ _ _ _ hB (wpPath_grow _ hp (Below.refl _ w).drew)
  have A2 := H.any
  rw [hpn] at A2
  exact wpIn_region_any hm (anyIn_of_any (fun i o ho c hc => by
    have := Array.all_eq_true.1 hd
    obtain ⟨hi, he⟩ := Array.getElem?_eq_some_iff.1 ho
    have h2 := this i hi
    rw [he] at h2
    simp [hc] at h2) hQ _ _ _ _ A2)
/-- .. and a tree of paths. -/
theorem wpIn_round_tree {lp n : Nat} {P : Program} {id : Nat} {Q : Exit → Act → World → Prop} {a : Act} {w : World} {l : List Oper} (late : List Nat) (t : Tr S P .any l.toArray late Q) (hm : P.follows .mixedOrders = true)
    (hd : (l.toArray.all fun o => match o.op with | .defer _ => false | _ => true) = true) (hQ : ¬ LetsOut Q)
    (hB : (Region.noSelect l.toArray && decide (t.len = l.toArray.size) && t.ok (Array.replicate l.toArray.size false)) = true) (h : t.wp a w) : (Code.region id l.toArray true).wpIn (Fence.wide.inRound lp) n P Q a w := by
  simp only [Bool.and_eq_true, decide_eq_true_eq] at hB
  obtain ⟨⟨hsel, hpn⟩, hp⟩ := hB
  have H := t.sound hsel (Array.replicate l.toArray.size false) a w.drew hp (t.grow _ _ _ h (Below.refl _ w).drew)
  have A := H.any
  rw [hpn] at A
  exact wpIn_region_any hm (anyIn_of_any (fun i o ho c hc => by
    have := Array.all_eq_true.1 hd
    obtain ⟨hi, he⟩ := Array.getElem?_eq_some_iff.1 ho
    have h2 := this i hi
    rw [he] at h2
    simp [hc] at h2) hQ _ _ _ _ A)
end Go.Proofs.Ytnngcminomooeaa.Vs
namespace Go.Proofs.Ytnngcminomooeaa.Vk
open Go Go.RowKit
/-- append(own, x...) of whatever x yields, inside a fence. -/
theorem wpListIn_append_srcv {F : Fence} {n0 : Nat} {P : Program} (w : World) {ops : Array Oper} {rest : List Oper} {o : Oper} {a : Act} {Q : Exit → Act → World → Prop} (hgd : o.guard = none) (s x : Operand) (t : TypeId)
    (ho : o.op = .call { callee := .builtin .append, args := #[s, x], argTypes := #[t, t] })
    (base : Nat) (e : TypeId) (i : TypeInfo) (z : Value) (size bytes : Nat) (ht : P.underlying t = some (.slice e)) (hi : P.info? e = some i) (hz : i.zero = some z)
    (hsize : i.size = size) (hby : i.bytes = bytes) (hzs : z.cells.size = size) (hsz : 0 < size)
    (v : Value) (n : Nat) (xs : List Value) (hs : a.eval s = v) (hown : w.ownsRow base e size v n xs)
    (xv : Value) (m : Nat) (news : List Value) (hx : a.eval x = xv) (hsrc : SrcV w size xv m news)
    (h63 : n + m ≤ maxLen) (hbytes : (n + m) * bytes ≤ 140737488355328) (hbase : base ≤ w.heap.size)
    (h : ∀ b' c' w', w'.ownsRow base e size (.slice b' (n + m) c') (n + m) (xs ++ news) → w.grownBy w' v.ownBlock → NewRow w v (.slice b' (n + m) c') → wpListIn F n0 P ops Q rest (a.put o.dst (.slice b' (n + m) c')) w') : wpListIn F n0 P ops Q (o :: rest) a w := by
  refine wpListIn_plain hgd fun K hK => ?_
  obtain ⟨b', c', w', hr, h2, h3, h4⟩ := run_append_srcv (P := P) w o.type t base e i z size bytes ht hi hz hsize hby hzs hsz v n xs hown xv m news hsrc h63 hbytes hbase
  unfold Oper.wpIn
  refine ⟨?_, ?_⟩
  · simp [Oper.about, ho, resolve, Target.leads, Sem.run_pure]
  · rw [Oper.semAt_plain F _ _ (by rw [ho]; intro c hc'; cases hc')]
    simp [execOp, ho, resolve, invoke, builtin, hs, hx, hr, Result.andThen]
    exact hK _ _ (h b' c' w' h2 h3 h4)
end Go.Proofs.Ytnngcminomooeaa.Vk
