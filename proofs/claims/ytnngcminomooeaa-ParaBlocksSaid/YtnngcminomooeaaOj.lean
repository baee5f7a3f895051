/-
  What Inner and Around answer, as lists; the first two variables of each.
-/
import Derived.Test.YtnngcminomooeaaOr
import Derived.Test.YtnngcminomooeaaOi
set_option linter.unusedVariables false
set_option linter.unusedSimpArgs false
set_option maxRecDepth 100000
namespace Go.Proofs.Ytnngcminomooeaa.Wo
open Go Go.RowKit Go.Proofs.Ytnngcminomooeaa.Vk Go.Proofs.Ytnngcminomooeaa.Str Go.Proofs.Ytnngcminomooeaa.Ln Go.Proofs.Ytnngcminomooeaa.Cl Go.Proofs.Ytnngcminomooeaa.Mv
attribute [local go_sem] Oper.semAt_some

/-- The answer, if it is columns A to B of line i. -/
def anV (i : Nat) : Option RN → Value
  | some (A, B) => .tuple #[rgv 0 i A i B, .bool true]
  | none => .tuple #[rgv 0 0 0 0 0, .bool false]
/-- n runs from the k-th on. -/
def innL (l : List RN) (k n : Nat) : Option RN := if k + n ≤ l.length then some ((l.getD k (0, 0)).1, (l.getD (k + n - 1) (0, 0)).2) else none
/-- n groups from the k-th on. -/
def arL (s : ByteArray) (b : Bool) (l : List RN) (k n : Nat) : Option RN :=
  if k < l.length then (gr s b l (bb s b l k) n k).map fun e => ((l.getD (frm s b l k e) (0, 0)).1, (l.getD (e - 1) (0, 0)).2) else none
def innA (ls : List ByteArray) (b : Bool) (l c nn : Int) : Option RN :=
  if On ls l c ∧ 1 ≤ nn then innL (rs (lineAt ls l.toNat) b) (cn c.toNat (rs (lineAt ls l.toNat) b)) nn.toNat else none
def arA (ls : List ByteArray) (b : Bool) (l c nn : Int) : Option RN :=
  if On ls l c ∧ 1 ≤ nn then arL (lineAt ls l.toNat) b (rs (lineAt ls l.toNat) b) (cn c.toNat (rs (lineAt ls l.toNat) b)) nn.toNat else none
section
variable {ls : List ByteArray} {b : Bool} {l c nn : Int}
theorem innA_no (h : ¬ (On ls l c ∧ 1 ≤ nn)) : innA ls b l c nn = none := if_neg h
theorem arA_no (h : ¬ (On ls l c ∧ 1 ≤ nn)) : arA ls b l c nn = none := if_neg h
theorem innA_yes {i k m : Nat} (h : On ls i k) (hm : 1 ≤ m) : innA ls b i k m = innL (rs (lineAt ls i) b) (cn k (rs (lineAt ls i) b)) m := by
  unfold innA; rw [if_pos ⟨h, by omega⟩]; simp
theorem arA_yes {i k m : Nat} (h : On ls i k) (hm : 1 ≤ m) : arA ls b i k m = arL (lineAt ls i) b (rs (lineAt ls i) b) (cn k (rs (lineAt ls i) b)) m := by
  unfold arA; rw [if_pos ⟨h, by omega⟩]; simp
end
/-- The first two variables: the place, the answer. -/
structure Vb (w W : World) (l c : Int) : Prop where
  below : Below w.heap.size w W
  size : w.heap.size + 2 ≤ W.heap.size
  pos : PosAt W w.heap.size l c
  rg : RgAt W (w.heap.size + 1) 0 0 0 0 0
section
variable {w W W' : World} {l c : Int}
theorem Vb.new (w : World) (l c : Int) : Vb w ((w.alloc (.cells #[.int .i64 l, .int .i64 c] 36)).alloc (.cells #[.int .i64 0, .int .i64 0, .int .i64 0, .int .i64 0, .int .i64 0] 42)) l c :=
  ⟨two_below _ _ _, by simp, PosAt.below (PosAt.new w l c) ((Below.refl _ _).alloc (Nat.le_refl _) _) (by simp), two_new w _ _⟩
theorem Vb.on (h : Vb w W l c) (hb : Below W.heap.size W W') : Vb w W' l c :=
  ⟨h.below.trans (hb.mono h.below.size), Nat.le_trans h.size hb.size, h.pos.below hb h.pos.lt, h.rg.below hb h.rg.lt⟩
theorem Vb.ret (h : Vb w W l c) (k a d m f : Int) : RgAt (putR W (w.heap.size + 1) k a d m f) (w.heap.size + 1) k a d m f ∧ Below w.heap.size w (putR W (w.heap.size + 1) k a d m f) :=
  ⟨h.rg.put _ _ _ _ _, putR_below h.below (by omega) _ _ _ _ _⟩
end
end Go.Proofs.Ytnngcminomooeaa.Wo
