/-
  The package's marks beside the document's: each call, told for both.
-/
import Derived.Test.YtmmmaadhbmgciaaMe
import Derived.Test.YtmmmaadhbmgciaaMu
set_option linter.unusedVariables false
set_option linter.unusedSimpArgs false
set_option maxRecDepth 100000
namespace Go.Proofs.Ytmmmaadhbmgciaa.Mk
open Go Go.RowKit Go.Proofs.Ytmmmaadhbmgciaa.Vk Go.Proofs.Ytmmmaadhbmgciaa.Str Go.Proofs.Ytmmmaadhbmgciaa.Ln Go.Proofs.Ytmmmaadhbmgciaa.Cl Go.Proofs.Ytmmmaadhbmgciaa.Ml
attribute [local go_sem] Oper.semAt_some

/-- Both, made behind w. -/
structure Bo (w : World) (m b r : Nat) (L1 L2 : ML) (W : World) : Prop where
  ms : Mks W m b L1
  rf : Rfs W w.heap.size r L2
  bel : Below w.heap.size w W
  hb : w.heap.size ≤ b
theorem Bo.below {w W V : World} {m b r : Nat} {L1 L2 : ML} (h : Bo w m b r L1 L2 W) (hb : Below W.heap.size W V) : Bo w m b r L1 L2 V :=
  ⟨h.ms.below hb, h.rf.below hb, h.bel.trans (hb.mono h.bel.size), h.hb⟩
theorem Bo.frb {w W V : World} {m b r : Nat} {L1 L1' L2 : ML} (h : Bo w m b r L1 L2 W) (hm : Mks V m b L1') (hf : Fr (fun j => j = b) W V) : Bo w m b r L1' L2 V :=
  ⟨hm, h.rf.fr hf (fun k hk e => (apart h.rf h.ms).2 (e ▸ hk)), h.bel.trans (hf.below h.bel.size (fun k e => by rw [e]; exact h.hb)), h.hb⟩
theorem Bo.frr {w W V : World} {m b r : Nat} {L1 L2 L2' : ML} (h : Bo w m b r L1 L2 W) (hr : Rfs V w.heap.size r L2') (hf : Fr (RBlk W r) W V) : Bo w m b r L1 L2' V :=
  ⟨h.ms.fr hf (apart h.rf h.ms).1 (apart h.rf h.ms).2, hr, h.bel.trans (hf.below h.bel.size (fun k e => (h.rf.blk e).1)), h.hb⟩
section
variable {w W : World} {m b r : Nat} {L1 L2 : ML}
theorem Bo.set (h : Bo w m b r L1 L2 W) {c : Nat} (hc : c < 256) (hs : Srt L1) (hr : Rng L1) (x y : Int) : Calls Try.prog 12 #[.pointer (some ⟨m, 0, none⟩), .int .u8 (c : Int), .agg #[.int .i64 x, .int .i64 y]] W fun e w' =>
    e = .returned (.bool (nam c)) ∧ Bo w m b r (setL L1 c (x, y)) L2 w' ∧ Fr (fun j => j = b) W w' :=
  (set_any m b L1 c x y W h.ms hc hs hr).mono fun e w' ⟨h1, h2, h3⟩ => ⟨h1, h.frb h2 h3, h3⟩
theorem Bo.set13 (h : Bo w m b r L1 L2 W) {c : Nat} (hl : L2.length ≤ 27) (x y : Int) : Calls Try.prog 13 #[.pointer (some ⟨r, 0, none⟩), .int .u8 (c : Int), .agg #[.int .i64 x, .int .i64 y]] W fun e w' =>
    e = .returned (.bool (nam c)) ∧ Bo w m b r L1 (setL L2 c (x, y)) w' ∧ Fr (RBlk W r) W w' :=
  (set13_any r w.heap.size L2 c x y W h.rf hl h.bel.size).mono fun e w' ⟨h1, h2, h3⟩ => ⟨h1, h.frr h2 h3, h3⟩
theorem Bo.adjust (h : Bo w m b r L1 L2 W) (a o n : Int) (hs : Srt L1) (hr : Rng L1) (hb : Bnd 4611686018427387904 L1) : Calls Try.prog 14 #[.pointer (some ⟨m, 0, none⟩), .int .i64 a, .int .i64 o, .int .i64 n] W fun e w' =>
    e = .returned (.tuple #[]) ∧ Bo w m b r (adj L1 a o n) L2 w' ∧ Fr (fun j => j = b) W w' :=
  (adjust_any m b L1 a o n W h.ms hs hr hb).mono fun e w' ⟨h1, h2, h3⟩ => ⟨h1, h.frb h2 h3, h3⟩
theorem Bo.adjust13 (h : Bo w m b r L1 L2 W) (a o n : Int) (hl : L2.length ≤ 27) (hb : Bnd 4611686018427387904 L2) : Calls Try.prog 15 #[.pointer (some ⟨r, 0, none⟩), .int .i64 a, .int .i64 o, .int .i64 n] W fun e w' =>
    e = .returned (.tuple #[]) ∧ Bo w m b r L1 (adj L2 a o n) w' ∧ Fr (RBlk W r) W w' :=
  (adjust13_any r w.heap.size L2 a o n W h.rf hl h.bel.size hb).mono fun e w' ⟨h1, h2, h3⟩ => ⟨h1, h.frr h2 h3, h3⟩
theorem Bo.get (h : Bo w m b r L1 L2 W) {c : Nat} (hc : c < 256) : Calls Try.prog 16 #[.pointer (some ⟨m, 0, none⟩), .int .u8 (c : Int)] W fun e w' =>
    e = .returned (.tuple #[.agg #[.int .i64 (lz (lk L1 c)).1, .int .i64 (lz (lk L1 c)).2], .bool (lk L1 c).isSome]) ∧ Below W.heap.size W w' := get_any m b L1 c W h.ms hc
theorem Bo.get13 (h : Bo w m b r L1 L2 W) {c : Nat} (hc : c < 256) (hl : L2.length ≤ 27) : Calls Try.prog 17 #[.pointer (some ⟨r, 0, none⟩), .int .u8 (c : Int)] W fun e w' =>
    e = .returned (.tuple #[.agg #[.int .i64 (lz (lk L2 c)).1, .int .i64 (lz (lk L2 c)).2], .bool (lk L2 c).isSome]) ∧ Below W.heap.size W w' := get13_any r w.heap.size L2 c W h.rf hc hl
end
/-- A block made later than the marks is none of the document's. -/
theorem RBlk.lt {W : World} {B r k : Nat} {L : ML} (h : Rfs W B r L) (hk : RBlk W r k) : k < W.heap.size := (h.blk hk).2.1
end Go.Proofs.Ytmmmaadhbmgciaa.Mk
