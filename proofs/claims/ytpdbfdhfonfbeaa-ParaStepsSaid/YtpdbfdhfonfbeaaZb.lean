/-
  Package words: its helps that need no iterator.
-/
import Derived.Test.YtpdbfdhfonfbeaaZl
import Derived.Test.YtpdbfdhfonfbeaaQt
set_option linter.unusedVariables false
set_option linter.unusedSimpArgs false
set_option maxRecDepth 100000
namespace Go.Proofs.Ytpdbfdhfonfbeaa.Wd
open Go Go.RowKit Go.Proofs.Ytpdbfdhfonfbeaa.Vk Go.Proofs.Ytpdbfdhfonfbeaa.Str Go.Proofs.Ytpdbfdhfonfbeaa.Ln Go.Proofs.Ytpdbfdhfonfbeaa.Cl Go.Proofs.Ytpdbfdhfonfbeaa.Mv
attribute [local go_sem] Oper.semAt_some

theorem plc_cl {ls : List ByteArray} {l c : Int} (h : 0 < ls.length) : (decide ((clL ls l : Int) = l) && decide ((clC ls l c true : Int) = c)) = decide (Plc ls l c) := by
  rw [Bool.eq_iff_iff]
  simp only [Bool.and_eq_true, decide_eq_true_eq]
  unfold clC clL Plc top
  rw [if_pos rfl]
  have hl := cl_lt l h
  constructor
  · rintro ⟨h1, h2⟩
    have e : cl ls.length l = l.toNat := by omega
    rw [e] at h2
    generalize (lineAt ls l.toNat).size = z at *
    unfold cl at h2
    omega
  · rintro ⟨h1, h2, h3, h4⟩
    have e : cl ls.length l = l.toNat := by unfold cl; omega
    rw [e]
    generalize (lineAt ls l.toNat).size = z at *
    unfold cl
    omega

theorem end5_any (a : Option Addr) (n c' : Nat) (ls : List ByteArray) (w : World) (h : Ss w a n c' ls) (h0 : 0 < n) :
    Calls Try.prog 33 #[.slice a n c'] w fun e w' => e = .returned (.agg #[.int .i64 (endP ls (ls.length - 1)).1, .int .i64 (endP ls (ls.length - 1)).2]) ∧ Below w.heap.size w w' := by
  have hlen := h.length
  have hn := h.le63
  obtain ⟨i, hi⟩ : ∃ i, i = n - 1 := ⟨_, rfl⟩
  obtain ⟨b, o, rfl, hc, hnc, _⟩ := h.read i (by omega)
  have hlt := lineAt_get (ls := ls) (k := i) (by omega)
  rw [← hlt] at hc
  have hc2 := cell_one hc
  rw [hlen, ← hi]
  unfold endP
  have hw : IntKind.i64.wrap ((n : Int) - 1) = (i : Int) := by rw [IntKind.wrap_i64]; omega
  have hin : i < n := by omega
  clear hlt h hlen hi
  generalize lineAt ls i = s at *
  go_enter Try.func33, Try.ntmps33
  go_wp2
  exact bodyPost_ret (results_cell_row (P := Try.prog) rfl _ _ w.heap.size _ #[.int .i64 (i : Int), .int .i64 (s.size : Int)] _ _ rfl (heap_alloc_new w _) Try.underlying24 rfl (by kernel_rfl)) rfl ⟨rfl, (Below.refl _ w).alloc (Nat.le_refl _) _⟩

end Go.Proofs.Ytpdbfdhfonfbeaa.Wd
