/-
  The package's marks: New, Set, Get.
-/
import Derived.Test.YtmmmaadhbmgciaaMa
import Derived.Carry
import Derived.Lib.Bytealg
set_option linter.unusedVariables false
set_option linter.unusedSimpArgs false
set_option maxRecDepth 100000
namespace Go.Proofs.Ytmmmaadhbmgciaa.Mk
open Go Go.RowKit Go.Proofs.Ytmmmaadhbmgciaa.Vk Go.Proofs.Ytmmmaadhbmgciaa.Str Go.Proofs.Ytmmmaadhbmgciaa.Ln Go.Proofs.Ytmmmaadhbmgciaa.Cl Go.Proofs.Ytmmmaadhbmgciaa.Ml
attribute [local go_sem] Oper.semAt_some

/-- Marks: block m leads to the map's block b. -/
def Mks (w : World) (m b : Nat) (L : ML) : Prop := w.heap[m]? = some (.cells #[.map (some b)] 53 (0, 0)) ∧ MapW w b L
theorem Mks.fr {S : Nat → Prop} {w w' : World} {m b : Nat} {L : ML} (h : Mks w m b L) (hf : Fr S w w') (hm : ¬ S m) (hb : ¬ S b) : Mks w' m b L :=
  ⟨(hf.block m (Array.getElem?_eq_some_iff.1 h.1).1 hm).trans h.1, h.2.fr hf hb⟩
theorem Mks.below {w w' : World} {m b : Nat} {L : ML} (h : Mks w m b L) (hb : Below w.heap.size w w') : Mks w' m b L := h.fr (Fr.ofBelow hb (fun _ => False)) (fun h => h) (fun h => h)
theorem Mks.lt {w : World} {m b : Nat} {L : ML} (h : Mks w m b L) : m < w.heap.size := (Array.getElem?_eq_some_iff.1 h.1).1
theorem Mks.blt {w : World} {m b : Nat} {L : ML} (h : Mks w m b L) : b < w.heap.size := by
  obtain ⟨es, clock, hb⟩ := h.2.block
  exact (Array.getElem?_eq_some_iff.1 hb).1
theorem Mks.ne {w : World} {m b : Nat} {L : ML} (h : Mks w m b L) : m ≠ b := fun e => by
  obtain ⟨es, clock, hb⟩ := h.2.block
  subst e
  rw [h.1] at hb
  cases hb
theorem Mks.cell {w : World} {m b : Nat} {L : ML} (h : Mks w m b L) : w.cell? ⟨m, 0, none⟩ = some (.map (some b)) := (cell_of_row w _ 0 _ _ _ h.1).trans (by simp)
/-- Such marks with another list, where the map's block alone has turned. -/
theorem Mks.turn {w w' : World} {m b : Nat} {L L' : ML} (h : Mks w m b L) (hf : Fr (fun k => k = b) w w') (hm : MapW w' b L') : Mks w' m b L' :=
  ⟨(hf.block m h.lt h.ne).trans h.1, hm⟩

theorem new_any (w : World) : Calls Try.prog 11 #[] w fun e w' => e = .returned (.pointer (some ⟨w.heap.size + 1, 0, none⟩)) ∧ Mks w' (w.heap.size + 1) w.heap.size [] ∧ Below w.heap.size w w' := by
  have hmm := @run_makeMap Try.prog
  go_enter Try.func11, Try.ntmps11
  go_wp2
  go_ret
  exact ⟨rfl, ⟨two_new _ _ _, (MapW.new w).below ((Below.refl _ _).alloc (Nat.le_refl _) _)⟩, two_below _ _ _⟩

/-! ### the library's search for a byte -/
abbrev nmS : ByteArray := { data := #[96, 97, 98, 99, 100, 101, 102, 103, 104, 105, 106, 107, 108, 109, 110, 111, 112, 113, 114, 115, 116, 117, 118, 119, 120, 121, 122] }
theorem index_nam : ∀ c : Nat, c < 256 → decide (Lib.indexByte nmS.data.toList (c : Int).toNat.toUInt8 < 0) = !nam c := by decide +kernel
theorem lite_any (s : ByteArray) (c : Int) (w : World) : Calls Try.prog 24 #[.string s, .int .u8 c] w fun e w' => e = .returned (.int .i64 (Lib.indexByte s.data.toList c.toNat.toUInt8)) ∧ w = w' := by
  go_enter Try.func24, Try.ntmps24
  go_wp2
  rw [run_callFunc_extern Try.func25 (by kernel_rfl) (by kernel_rfl) (by kernel_rfl) (e := Extern.BytealgIndexByte.indexByte) (by kernel_rfl), Lib.run_indexByteString]
  simp only [Result.andThen]
  rw [Oper.upon_value]
  go_wp2
  go_ret
  exact ⟨rfl, rfl⟩
theorem index_any (s : ByteArray) (c : Int) (w : World) : Calls Try.prog 23 #[.string s, .int .u8 c] w fun e w' => e = .returned (.int .i64 (Lib.indexByte s.data.toList c.toNat.toUInt8)) ∧ w = w' := by
  go_enter Try.func23, Try.ntmps23
  go_wp2_with (go_at_call 24; refine (lite_any _ _ _).mono ?_; rintro e w' ⟨rfl, rfl⟩)
  go_ret
  exact ⟨rfl, rfl⟩

theorem get_any (m b : Nat) (L : ML) (c : Nat) (w : World) (h : Mks w m b L) (hc : c < 256) : Calls Try.prog 16 #[.pointer (some ⟨m, 0, none⟩), .int .u8 (c : Int)] w fun e w' =>
    e = .returned (.tuple #[.agg #[.int .i64 (lz (lk L c)).1, .int .i64 (lz (lk L c)).2], .bool (lk L c).isSome]) ∧ Below w.heap.size w w' := by
  have hcm := h.cell
  have hl := fun W (hb : Below w.heap.size w W) => (h.below hb).2.look_ok hc
  obtain ⟨x, hx⟩ : ∃ x, x = (lz (lk L c)).1 := ⟨_, rfl⟩
  obtain ⟨y, hy⟩ : ∃ y, y = (lz (lk L c)).2 := ⟨_, rfl⟩
  obtain ⟨q, hq⟩ : ∃ q, q = (lk L c).isSome := ⟨_, rfl⟩
  rw [← hx, ← hy, ← hq] at hl ⊢
  clear hx hy hq
  have hb1 := (Below.refl w.heap.size w).alloc (Nat.le_refl _) (.cells #[.int .i64 0, .int .i64 0] 37)
  have hl1 := hl _ hb1
  have hc1 := (h.below hb1).cell
  clear hl hb1 hcm
  go_enter Try.func16, Try.ntmps16
  go_wp2
  refine ret_ps (g := w.heap.size) rfl rfl rfl rfl ((PosAt.new w x y).below ((Below.refl _ _).alloc (Nat.le_refl _) _) (by simp)) ⟨rfl, two_below _ _ _⟩

theorem set_any (m b : Nat) (L : ML) (c : Nat) (l k : Int) (w : World) (h : Mks w m b L) (hc : c < 256) (hs : Srt L) (hr : Rng L) : Calls Try.prog 12 #[.pointer (some ⟨m, 0, none⟩), .int .u8 (c : Int), .agg #[.int .i64 l, .int .i64 k]] w fun e w' =>
    e = .returned (.bool (nam c)) ∧ Mks w' m b (setL L c (l, k)) ∧ Fr (fun j => j = b) w w' := by
  have hi := index_any nmS (c : Int)
  have hn := index_nam c hc
  obtain ⟨q, hq⟩ : ∃ q, q = Lib.indexByte nmS.data.toList (c : Int).toNat.toUInt8 := ⟨_, rfl⟩
  rw [← hq] at hi hn
  have hcm := h.cell
  cases hnam : nam c with
  | false =>
    rw [setL_no hnam]
    have hq0 : q < 0 := by rw [hnam] at hn; simpa using hn
    clear hn hq
    go_enter Try.func12, Try.ntmps12
    go_wp2_with (go_at_call 23; refine (hi _).mono ?_; rintro e w' ⟨rfl, rfl⟩)
    go_ret
    exact ⟨rfl, h.below ((Below.refl _ _).alloc (Nat.le_refl _) _), (Fr.refl _ _).alloc _⟩
  | true =>
    rw [setL_yes hnam]
    have hq0 : ¬ q < 0 := by rw [hnam] at hn; simpa using hn
    clear hn hq
    go_enter Try.func12, Try.ntmps12
    go_wp2_with (go_at_call 23; refine (hi _).mono ?_; rintro e w' ⟨rfl, rfl⟩)
    obtain ⟨w1, hw1⟩ : ∃ w1, w1 = w.alloc (.cells #[.int .i64 l, .int .i64 k] 37) := ⟨_, rfl⟩
    have hp := PosAt.new w l k
    have hb1 : Below w.heap.size w w1 := by rw [hw1]; exact (Below.refl _ _).alloc (Nat.le_refl _) _
    rw [← hw1] at hp ⊢
    have h1 := h.below hb1
    have F_m := fun (C : World → Prop) (hC : Grows w1 C) (z : In C) => hC.cell h1.cell z
    have F_0 := fun (C : World → Prop) (hC : Grows w1 C) (z : In C) => hC.cell hp.c0 z
    have F_1 := fun (C : World → Prop) (hC : Grows w1 C) (z : In C) => hC.cell hp.c1 z
    refine wp_region_seg [0, 1, 2, 3, 4, 5] [(6, 3)] (by kernel_rfl) (by kernel_rfl) 16 rfl (by kernel_rfl) ?_
    simp only [List.map_cons, List.map_nil, opOf_succ, opOf_zero]
    apply Exists.intro
    refine ⟨fun C hC => ?_, ?_⟩
    · haveI hI := hC.one
      have f_m := F_m C hC
      have f_0 := F_0 C hC
      have f_1 := F_1 C hC
      repeat (go_big_quiet_step (fail))
      exact wpQuiet_nil rfl
    clear F_m F_0 F_1
    refine wpPath_store rfl fun w2 hb2 => ?_
    have h2 := h1.below hb2
    obtain ⟨w3, hu, hm3, hf3⟩ := h2.2.put (L' := ins L c (l, k)) (by have := length_rng hs hr; omega) hc (l, k) (look_ins L c (l, k)) (length_ins hs c (l, k))
    refine ⟨w3, rfl, by simp only [opOf_succ, opOf_zero]; go_simp, ?_⟩
    have h3 := h2.turn hf3 hm3
    simp only [opOf_succ, opOf_zero, Act.put, List.setIfInBounds_toArray, List.set_cons_zero, List.set_cons_succ]
    refine wpPath_end fun w4 hb4 => ?_
    have h4 := h3.below hb4
    have hf4 : Fr (fun j => j = b) w w4 := (((Fr.ofBelow hb1 _).trans (Fr.ofBelow hb2 _)).trans hf3).trans (Fr.ofBelow hb4 _)
    clear hu hm3 hf3 h3 h2 hb2 hb4 hb1
    go_wp2
    go_ret
    exact ⟨rfl, h4, hf4⟩
end Go.Proofs.Ytmmmaadhbmgciaa.Mk
