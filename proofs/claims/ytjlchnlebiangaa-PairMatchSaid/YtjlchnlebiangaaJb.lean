/-
  Package pair: inside, bracket.
-/
import Derived.Test.YtjlchnlebiangaaJs
import Derived.Test.YtjlchnlebiangaaZb
set_option linter.unusedVariables false
set_option linter.unusedSimpArgs false
set_option maxRecDepth 100000
namespace Go.Proofs.Ytjlchnlebiangaa.Pr
open Go Go.RowKit Go.Proofs.Ytjlchnlebiangaa.Vk Go.Proofs.Ytjlchnlebiangaa.Str Go.Proofs.Ytjlchnlebiangaa.Ln Go.Proofs.Ytjlchnlebiangaa.Cl Go.Proofs.Ytjlchnlebiangaa.Mv Go.Proofs.Ytjlchnlebiangaa.Wd Go.Shelf
attribute [local go_sem] Oper.semAt_some

theorem inside_any (a : Option Addr) (n c' : Nat) (ls : List ByteArray) (l c : Int) (w : World) (h : Ss w a n c' ls) (hs : ∀ s ∈ ls, s.size ≤ 140737488355328) :
    Calls Try.prog 19 #[.slice a n c', .agg #[.int .i64 l, .int .i64 c]] w fun e w' => e = .returned (.bool (decide (Plc ls l c))) ∧ Below w.heap.size w w' := by
  have hlen := h.length
  obtain ⟨X, hX⟩ : ∃ X, X = w.alloc (.cells #[.int .i64 l, .int .i64 c] 24) := ⟨_, rfl⟩
  have hb0 : Below w.heap.size w X := by rw [hX]; exact (Below.refl _ w).alloc (Nat.le_refl _) _
  have hp : PosAt X w.heap.size l c := by rw [hX]; exact PosAt.new w l c
  have HX := Lib.hid hX
  have HB := Lib.hid hb0
  by_cases h0 : 0 < n
  · have f0 := fun z : Gr X => z.cell hp.c0
    have f1 := fun z : Gr X => z.cell hp.c1
    have hx := SrcV.below h hb0
    have h5 := fun z : Gr X => clamp_any a n c' ls l c true z.W (SrcV.below hx z.below) hs
    have he := fun W => eq_pos (clL ls l) (clC ls l c true) l c W
    have d0 : decide (0 < n) = true := decide_eq_true h0
    rw [← plc_cl (by omega)]
    clear h hx hX hb0 hs hp hlen
    go_enter Try.func19, Try.ntmps19
    go_wp2
    rw [← HX.out]
    refine wp_region_grow (by kernel_rfl) (by kernel_rfl) ?_
    repeat (go_big_quiet_step (first | (go_at_call 28; exact Calls.grow_of (h5 _))))
    refine wpQuiet_nil ?_
    rintro _ ⟨⟨X5, hX5⟩, rfl⟩
    go_wp2
    go_ret
    exact ⟨rfl, HB.out.trans (hX5.mono HB.out.size)⟩
  · obtain rfl : n = 0 := by omega
    have hd : decide (Plc ls l c) = false := decide_eq_false fun hp => by have := hp.1; have := hp.2.1; omega
    rw [hd]
    clear h hX hb0 hs hp hlen hd
    go_enter Try.func19, Try.ntmps19
    go_wp2
    rw [← HX.out]
    refine wp_region_grow (by kernel_rfl) (by kernel_rfl) ?_
    repeat (go_big_quiet_step (fail))
    refine wpQuiet_nil ?_
    rintro _ ⟨⟨X5, hX5⟩, rfl⟩
    go_wp2
    go_ret
    exact ⟨rfl, HB.out.trans (hX5.mono HB.out.size)⟩

/-- What bracket answers. -/
def brV (ls : List ByteArray) (i k : Nat) : Option P2 := (fbr (lineAt ls i) k).map fun j => (i, j)
def oV : Option P2 → P2 × Bool
  | some q => (q, true)
  | none => ((0, 0), false)
theorem bracket_any (a : Option Addr) (n c' : Nat) (ls : List ByteArray) (i k : Nat) (w : World) (h : Ss w a n c' ls) (hs : ∀ s ∈ ls, s.size ≤ 140737488355328) (hi : i < n) (hk : k ≤ (lineAt ls i).size) :
    Calls Try.prog 20 #[.slice a n c', .agg #[.int .i64 i, .int .i64 k]] w fun e w' => e = .returned (nthU (oV (brV ls i k))) ∧ Below w.heap.size w w' := by
  have hlen := h.length
  obtain ⟨V, hV⟩ : ∃ V, V = brV ls i k := ⟨_, rfl⟩
  rw [← hV]
  obtain ⟨st, hst⟩ : ∃ st, st = lineAt ls i := ⟨_, rfl⟩
  have hz : st.size ≤ 140737488355328 := by rw [hst, lineAt_get (by omega)]; exact hs _ (List.getElem_mem _)
  obtain ⟨X, hX⟩ : ∃ X, X = ((w.alloc (.cells #[.int .i64 (i : Int), .int .i64 (k : Int)] 24)).alloc (.cells #[.int .i64 0, .int .i64 0] 24)) := ⟨_, rfl⟩
  have hT : Tp w X i k := by rw [hX]; exact Tp.new w i k
  obtain ⟨ab, ao, rfl, hcx, hnc, _⟩ := h.read i (by omega)
  rw [← lineAt_get (ls := ls) (k := i) (by omega), ← hst] at hcx
  have c2 := cell_later hT.below hcx
  have p0 := hT.pos.c0
  have p1 := hT.pos.c1
  have HX := Lib.hid hX
  have HT := Lib.hid hT
  have HV := Lib.hid (show V = (fbr st k).map fun j => (i, j) by rw [hV, hst]; rfl)
  rw [← hst] at hk
  clear hX hT hV h hs hst hcx
  go_enter Try.func20, Try.ntmps20
  go_upto_region 1 with fail
  rw [← HX.out]
  go_wp2
  clear p0 p1 c2
  go_loopw [7] (fun u wr => ∃ j : Nat, j ≤ st.size ∧ u = .int .i64 j ∧ Hid (Tp w wr i k ∧ V = (fbr st j).map fun j => (i, j))) (fun u _ => st.size - (RowKit.intOf u).toNat)
  case atStart => exact ⟨k, hk, rfl, HT.out, HV.out⟩
  case round =>
    clear HT HV
    obtain ⟨j, hj, rfl, hQ⟩ := hrel
    obtain ⟨hT, hV⟩ := hQ.out
    have HTT := Lib.hid hT
    have r0 := hT.res.c0
    have r1 := hT.res.c1
    have p0 := hT.pos.c0
    have p1 := hT.pos.c1
    have z := fun j => frozen_of_row wr (w.heap.size + 1) j _ _ hT.res
    by_cases hjs : j < st.size
    · obtain ⟨y, hy⟩ : ∃ y, y = bt st j := ⟨_, rfl⟩
      obtain ⟨o, ho⟩ : ∃ o, o = kO y := ⟨_, rfl⟩
      obtain ⟨s, hs⟩ : ∃ s, s = kS y := ⟨_, rfl⟩
      obtain ⟨op, hop⟩ : ∃ op, op = kB y := ⟨_, rfl⟩
      obtain ⟨q, hq⟩ : ∃ q, q = kI y := ⟨_, rfl⟩
      have hkd : ∀ W, Calls Try.prog 13 #[.int .u8 ((st[j]'hjs).toNat)] W fun e w' => e = .returned (.tuple #[.int .u8 o, .int .u8 s, .bool op, .bool q]) ∧ W = w' := fun W => by
        have := kind_any y W
        unfold kV at this
        rw [← ho, ← hs, ← hop, ← hq] at this
        rw [bt_at, ← hy]; exact this
      cases q
      · have HN := Lib.hid (hV.trans (by rw [fbr_no hjs (by rw [← hy]; exact hq.symm)]))
        clear hV hQ hy ho hs hop hq hT
        go_wp2_with fail
        refine (hkd _).mono ?_
        rintro e w' ⟨rfl, rfl⟩
        clear hkd
        go_wp2
        go_roundw
        case rel => exact ⟨j + 1, by omega, by go_num, HTT.out, HN.out⟩
        case measure => simp [RowKit.intOf]; omega
      · have HN := Lib.hid (hV.trans (by rw [fbr_yes hjs (by rw [← hy]; exact hq.symm)]; rfl : _ = some (i, j)))
        clear hV hQ hy ho hs hop hq hT
        go_wp2_with fail
        refine (hkd _).mono ?_
        rintro e w' ⟨rfl, rfl⟩
        clear hkd
        go_wp2
        obtain ⟨hg, hb⟩ := HTT.out.ret i j
        refine ret_ps (g := w.heap.size + 1) (x := i) (y := j) (ok := true) rfl rfl rfl rfl hg ?_
        exact ⟨by rw [HN.out]; rfl, hb⟩
    · have HN := Lib.hid (hV.trans (by rw [fbr_end (by omega)]; rfl : _ = none))
      clear hV hQ hT
      go_wp2
      obtain ⟨hg, hb⟩ := HTT.out.ret 0 0
      refine ret_ps (g := w.heap.size + 1) (x := 0) (y := 0) (ok := false) rfl rfl rfl rfl hg ?_
      exact ⟨by rw [HN.out]; rfl, hb⟩
end Go.Proofs.Ytjlchnlebiangaa.Pr
