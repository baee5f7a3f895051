/-
  A part of the text, gathered from the pieces.
-/
import Derived.Test.YtfllgmgipmmpkaaGreatDoorAllT
import Derived.Test.YtfllgmgipmmpkaaGreatDoorRnd
import Derived.Laws.MakeOwn
set_option linter.unusedVariables false
set_option linter.unusedSimpArgs false
set_option maxRecDepth 100000
namespace Go.Proofs.YtfllgmgipmmpkaaGreatDoor.Tb
open Go Go.RowKit Go.Proofs.YtfllgmgipmmpkaaGreatDoor.Vk Go.Shelf
open VecP (E TV)
attribute [local go_sem] Oper.semAt_some

/-- What has been gathered of the first k pieces. -/
def part (B : Nat → List UInt8) (ps : List Pc) (off n k : Nat) : List UInt8 := ((txt B (ps.take k)).drop off).take n

theorem part_le (B : Nat → List UInt8) (ps : List Pc) (off n k : Nat) : (part B ps off n k).length ≤ n := by simp [part]; omega

theorem take_min (l : List UInt8) (a : Nat) : l.take (min a l.length) = l.take a := by
  rcases Nat.le_total a l.length with h | h
  · rw [Nat.min_eq_left h]
  · rw [Nat.min_eq_right h, List.take_of_length_le (Nat.le_refl _), List.take_of_length_le h]

theorem part_succ {B : Nat → List UInt8} {ps : List Pc} (hok : ∀ p ∈ ps, p.ok B) {off n k : Nat} {q : Pc} (hq : ps[k]? = some q) (f g : Nat) (hf : f = min (off - tot (ps.take k)) q.z) (hg : g = min (f + n - (part B ps off n k).length) q.z) :
    part B ps off n (k + 1) = part B ps off n k ++ ((q.txt B).drop f).take (g - f) ∧ f ≤ g ∧ g ≤ q.z := by
  obtain ⟨hlt, hqe⟩ := List.getElem?_eq_some_iff.1 hq
  have hqo := hok q (hqe ▸ List.getElem_mem hlt)
  have hql := Pc.txt_length hqo
  have hle := part_le B ps off n k
  refine ⟨?_, by omega, by omega⟩
  have e1 : txt B (ps.take (k + 1)) = txt B (ps.take k) ++ q.txt B := by
    rw [List.take_succ_eq_append_getElem hlt, txt_append, hqe]; simp [txt]
  have hl1 : (txt B (ps.take k)).length = tot (ps.take k) := txt_length (fun p hp => hok p (List.mem_of_mem_take hp))
  conv => lhs; unfold part
  rw [e1, gather, hl1]
  show part B ps off n k ++ _ = _
  congr 1
  show ((q.txt B).drop (off - tot (ps.take k))).take (n - (part B ps off n k).length) = _
  have hd : (q.txt B).drop (off - tot (ps.take k)) = (q.txt B).drop f := by
    rcases Nat.le_total (off - tot (ps.take k)) q.z with h | h
    · rw [hf, Nat.min_eq_left h]
    · rw [hf, Nat.min_eq_right h, List.drop_eq_nil_of_le (by omega), List.drop_eq_nil_of_le (by omega)]
  rw [hd, ← take_min]
  congr 1
  rw [List.length_drop, hql]
  omega

theorem part_all (B : Nat → List UInt8) (ps : List Pc) (off n : Nat) : part B ps off n ps.length = ((txt B ps).drop off).take n := by rw [part, List.take_length]

theorem part_full {B : Nat → List UInt8} {ps : List Pc} {off n k : Nat} (h : (part B ps off n k).length = n) : part B ps off n k = ((txt B ps).drop off).take n := by
  have e : txt B ps = txt B (ps.take k) ++ txt B (ps.drop k) := by rw [← txt_append, List.take_append_drop]
  rw [e, gather]
  unfold part at h ⊢
  rw [h, Nat.sub_self, List.take_zero, List.append_nil]

/-- The row of what is gathered, and its slice's box. -/
def Got (N m : Nat) (G : List UInt8) (V : World) : Prop :=
  ∃ b c, V.heap[N + 4]? = some (.cells #[.slice b G.length c] 37 (0, 0)) ∧ V.ownsRow (N + 3) TU 1 (.slice b G.length c) G.length (bcells G) ∧ ∀ k, ab b = some k → k = N + 3 ∨ m ≤ k

theorem got_own {α : Type} {B N m : Nat} (hB : N + 4 < B) (G : List α → List UInt8) : OwnFrom B (fun pre (V : World) => Got N m (G pre) V) := by
  rintro s A A' row ⟨b, c, h1, h2, h3⟩ hg hr
  have hne : ∀ k, ab b = some k → some k ≠ row := fun k hk e => by
    obtain ⟨_, o, ho, hc⟩ := hr k e.symm
    obtain ⟨cur, hcur⟩ := own_type h2 hk
    rw [hcur] at ho
    injection ho with ho
    rw [← ho] at hc
    cases hc
  refine ⟨b, c, (hg.block _ (Array.getElem?_eq_some_iff.1 h1).1 (fun e => by have := (hr _ e.symm).1; omega)).trans h1, ?_, h3⟩
  refine h2.kept hg ?_
  rw [ab_own]
  cases hb : ab b with
  | none => exact .inl rfl
  | some k => exact .inr (hne k hb)

/-- The part of a piece that is appended. -/
theorem app_src {V5 : World} {gb qs qz cc f g : Nat} {tx : List UInt8} (hsrc : SrcV V5 1 (.slice (some ⟨gb, qs, none⟩) qz cc) qz (bcells tx)) (hz : 0 < qz) (hfg : f ≤ g) (hgz : g ≤ qz) :
    ∃ A, (if cc = f then (some ⟨gb, qs, none⟩ : Option Addr) else some ⟨gb, qs + f, none⟩) = some A ∧ g ≤ cc ∧ f ≤ cc ∧ cc ≤ 9223372036854775807 ∧
      Hid (SrcV V5 1 (.slice (some A) (g - f) (cc - f)) (g - f) (bcells ((tx.drop f).take (g - f)))) := by
  have hcc : qz ≤ cc ∧ cc ≤ 9223372036854775807 := by
    rcases hsrc.2.2.2 with ⟨ao, hv, h0⟩ | ⟨b, o, c', hv, h1, h2, h3⟩
    · omega
    · simp only [Value.slice.injEq] at hv; unfold maxLen at h2; omega
  obtain ⟨A, hA, hsA⟩ := (hsrc.take hgz).drop hfg
  refine ⟨A, hA, by omega, by omega, hcc.2, ?_⟩
  have e : bcells ((tx.drop f).take (g - f)) = List.drop f (List.take g (bcells tx)) := by
    rw [List.drop_take]
    simp [bcells, List.map_take, List.map_drop]
  rw [e]
  exact hsA

theorem conv_own {V : World} {base : Nat} {b : Option Addr} {c : Nat} {G : List UInt8} (h : V.ownsRow base TU 1 (.slice b G.length c) G.length (bcells G)) : (convert 37 9 (.slice b G.length c)).run Tryz.prog V = .ok (.string ⟨G.toArray⟩) V := by
  rcases h.2 with ⟨hv, h0⟩ | ⟨g, cap, cur, hv, _⟩
  · simp only [Value.slice.injEq] at hv
    obtain ⟨rfl, _, rfl⟩ := hv
    have hG : G = [] := List.eq_nil_of_length_eq_zero h0
    subst hG
    exact run_convert_bytes_nil (P := Tryz.prog) V 37 TU (by kernel_rfl) (by kernel_rfl) 0 0 9 (by kernel_rfl)
  · simp only [Value.slice.injEq, true_and] at hv
    obtain ⟨rfl, rfl⟩ := hv
    exact conv_src V _ _ _ G (SrcV.ofOwn h (bcells_one G))

section
variable {w : World} {base t p : Nat} {r : Option Nat} {b0 : Option Addr} {c0 : Nat} {l0 : List UInt8} {b1 : Option Addr} {c1 : Nat} {l1 : List UInt8} {ps : List Pc} {T : List UInt8} {most : Int} {edits used : Nat}

set_option maxHeartbeats 4000000 in
theorem slice_any (h : TabX w base t p r b0 c0 l0 b1 c1 l1 ps T most edits used) (off n : Nat) (ho : off + n ≤ T.length) (hT : T.length ≤ 100000) (hn : ps.length ≤ 1000000) :
    Calls Tryz.prog 39 #[.pointer (some ⟨t, 0, none⟩), .int .i64 off, .int .i64 n] w fun e w' => e = .returned (.tuple #[.string ⟨((T.drop off).take n).toArray⟩, .int .i64 0]) ∧ Below w.heap.size w w' := by
  obtain ⟨i0, hi0, hz0, hz1, hz2⟩ := info_parts infoU
  obtain ⟨k0, k1, k2, k3, k4, k5⟩ := h.cells
  have hlt : t < w.heap.size := (h.foot_lt (.inl rfl)).2
  have hpl := h.vec.lt.2
  have hh : ∀ U, Below w.heap.size w U → Calls Tryz.prog 60 #[.pointer (some ⟨t, 0, none⟩), .int .i64 off, .int .i64 n] U _ := fun U hU => has_yes (h.below hU) (off := off) (n := n) ⟨by omega, by omega, by omega, by omega⟩
  have m1 : t < w.heap.size + 1 := by omega
  have m2 : t < w.heap.size + 1 + 1 := by omega
  have m3 : t < w.heap.size + 1 + 1 + 1 := by omega
  have m4 : t < w.heap.size + 1 + 1 + 1 + 1 := by omega
  have n1 : ¬ (t = w.heap.size) := by omega
  have n2 : ¬ (t = w.heap.size + 1) := by omega
  have n3 : ¬ (t = w.heap.size + 1 + 1) := by omega
  have n4 : ¬ (t = w.heap.size + 1 + 1 + 1) := by omega
  have n5 : ¬ (t = w.heap.size + 1 + 1 + 1 + 1) := by omega
  have HH := Lib.hid h
  have HHS := Lib.hid hh
  obtain ⟨W3, hW3⟩ : ∃ W3, W3 = ((w.alloc (.cells #[.pointer (some ⟨t, 0, none⟩)] 56)).alloc (.cells #[.int .i64 off] 3)).alloc (.cells #[.int .i64 n] 3) := ⟨_, rfl⟩
  have hb3 : Below w.heap.size w W3 := by rw [hW3]; exact (((Below.refl _ w).alloc (Nat.le_refl _) _).alloc (by simp only [World.size_alloc]; omega) _).alloc (by simp only [World.size_alloc]; omega) _
  have hmk := run_make (P := Tryz.prog) W3 37 TU i0 (.int .u8 0) underB hi0 hz0 .i64 .i64 0 n (Int.le_refl _) (by omega) (by rw [hz2]; omega) (by omega)
  rw [hz1, hW3] at hmk
  simp only [Int.toNat_zero, Int.toNat_natCast, Nat.mul_one] at hmk
  have HB3 := Lib.hid hb3
  have hmx : Tryz.prog.follows .mixedOrders = true := by kernel_rfl
  clear k0 k1 k3 k4 k5 h hh hb3
  refine (callsIn_wide (n := 9)).1 ?_
  refine callsIn_of_wp_marks Tryz.func39 rfl trivial ?_ rfl
  simp only [Tryz.ntmps39, List.size_toArray, List.length_cons, List.length_nil, Nat.reduceAdd, Nat.reduceSub, Array.replicate_succ, Array.replicate_zero, List.push_toArray, List.append_toArray, List.nil_append, List.cons_append]
  refine wpIn_mono (Q := noPanic _) ?_ (noPanic_out _)
  gi_wp2_with (first
    | (refine ⟨trivial, ?_⟩; gi_at_call 60; refine (callsIn_wide.2 (HHS.out _ (hW3 ▸ HB3.out))).mono ?_; rintro e w' ⟨rfl, rfl⟩)
    | (refine ⟨trivial, ?_⟩; gi_at_call 61; refine (callsIn_wide.2 (VecP.all_new _ _)).mono ?_; rintro e w' ⟨rfl, rfl⟩))
  refine name_world ?_
  intro Wi hWi
  replace hWi : Wi = ((((((w.alloc (.cells #[.pointer (some ⟨t, 0, none⟩)] 56)).alloc (.cells #[.int .i64 off] 3)).alloc (.cells #[.int .i64 n] 3)).alloc (.cells (madeCells (Value.int .u8 0).cells n) TU)).alloc (.cells #[.slice (some ⟨w.heap.size + 3, 0, none⟩) 0 n] 37)).alloc (.cells #[.pointer (some ⟨p, 0, none⟩)] 85)).alloc (.cells #[.func (.func 83) #[] #[]] 126) := hWi
  have si1 : Wi.heap.size ≤ w.heap.size + 7 := by rw [hWi]; simp
  have si2 : w.heap.size + 7 ≤ Wi.heap.size := by rw [hWi]; simp
  have bi : Below w.heap.size w Wi := by
    rw [hWi]
    exact (((((((Below.refl _ w).alloc (Nat.le_refl _) _).alloc (by simp only [World.size_alloc]; omega) _).alloc (by simp only [World.size_alloc]; omega) _).alloc (by simp only [World.size_alloc]; omega) _).alloc (by simp only [World.size_alloc]; omega) _).alloc (by simp only [World.size_alloc]; omega) _).alloc (by simp only [World.size_alloc]; omega) _
  have ez : off - tot (ps.take ([] : List (Nat × Pc)).length) = off := by simp [tot]
  have e0 : Wi.heap[w.heap.size]? = some (.cells #[.pointer (some ⟨t, 0, none⟩)] 56 (0, 0)) := by rw [hWi]; simp only [heap_alloc_if, World.size_alloc]; repeat (first | rw [if_pos trivial] | rw [if_pos (by omega)] | rw [if_neg (by omega)])
  have e1 : Wi.heap[w.heap.size + 1]? = some (.cells #[.int .i64 ((off - tot (ps.take ([] : List (Nat × Pc)).length) : Nat) : Int)] 3 (0, 0)) := by rw [ez, hWi]; simp only [heap_alloc_if, World.size_alloc]; repeat (first | rw [if_pos trivial] | rw [if_pos (by omega)] | rw [if_neg (by omega)])
  have e2 : Wi.heap[w.heap.size + 2]? = some (.cells #[.int .i64 n] 3 (0, 0)) := by rw [hWi]; simp only [heap_alloc_if, World.size_alloc]; repeat (first | rw [if_pos trivial] | rw [if_pos (by omega)] | rw [if_neg (by omega)])
  have e3 : Wi.heap[w.heap.size + 3]? = some (.cells (madeCells (Value.int .u8 0).cells n) TU (0, 0)) := by rw [hWi]; simp only [heap_alloc_if, World.size_alloc]; repeat (first | rw [if_pos trivial] | rw [if_pos (by omega)] | rw [if_neg (by omega)])
  have e4 : Wi.heap[w.heap.size + 4]? = some (.cells #[.slice (some ⟨w.heap.size + 3, 0, none⟩) 0 n] 37 (0, 0)) := by rw [hWi]; simp only [heap_alloc_if, World.size_alloc]; repeat (first | rw [if_pos trivial] | rw [if_pos (by omega)] | rw [if_neg (by omega)])
  have c5 : Wi.cell? ⟨w.heap.size + 5, 0, none⟩ = some (.pointer (some ⟨p, 0, none⟩)) := (cell_of_row Wi _ 0 _ _ _ (by rw [hWi]; simp only [heap_alloc_if, World.size_alloc]; repeat (first | rw [if_pos trivial] | rw [if_pos (by omega)] | rw [if_neg (by omega)]))).trans (by simp)
  have c6 : Wi.cell? ⟨w.heap.size + 6, 0, none⟩ = some (.func (.func 83) #[] #[]) := (cell_of_row Wi _ 0 _ _ _ (by rw [hWi]; simp only [heap_alloc_if, World.size_alloc]; repeat (first | rw [if_pos trivial] | rw [if_pos (by omega)] | rw [if_neg (by omega)]))).trans (by simp)
  have hg0 : Got w.heap.size (w.heap.size + 13) (part (bufs l0 l1) ps off n ([] : List (Nat × Pc)).length) Wi := by
    have hp0 : part (bufs l0 l1) ps off n ([] : List (Nat × Pc)).length = [] := by simp [part, txt]
    rw [hp0]
    refine ⟨some ⟨w.heap.size + 3, 0, none⟩, n, e4, ⟨rfl, .inr ⟨w.heap.size + 3, n, _, rfl, Nat.le_refl _, e3, Nat.zero_le _, by simp only [maxLen]; omega, ?_, rfl⟩⟩, fun k hk => ?_⟩
    · simp [madeCells, Value.cells]
    · simp [ab] at hk; exact .inl hk.symm
  have hvi := HH.out.vec.fr (Fr.ofBelow bi (fun _ => False)) (by simp) (by simp)
  have hrl : ∀ k, r = some k → k < w.heap.size := fun k hk => (HH.out.vec.rowLt k hk).2
  have iter := VecP.all_iter base p (w.heap.size + 6) (w.heap.size + 5) r ps Wi hvi hn (fun k => w.heap.size ≤ k ∧ k ≤ w.heap.size + 4) (by omega) (fun k hk => by have := hrl k hk; omega) (by omega) c6 c5
  clear hWi c5 c6 hvi e3 e4 ez hmk hW3 HB3 HHS
  refine rangeFunc_iter (by omega) (gf := 100) (lb := #[.pointer (some ⟨w.heap.size + 6, 0, none⟩), .pointer (some ⟨w.heap.size + 5, 0, none⟩)]) rfl (enters_of Tryz.func100 (by kernel_rfl) rfl) iter
    (fun h1 h2 => h1.trans h2) (frK (by omega)) (Below.refl _ _) (fun _ => rfl)
    (fun pre V => Below w.heap.size w V ∧ V.heap[w.heap.size]? = some (.cells #[.pointer (some ⟨t, 0, none⟩)] 56 (0, 0)) ∧ V.heap[w.heap.size + 1]? = some (.cells #[.int .i64 ((off - tot (ps.take pre.length) : Nat) : Int)] 3 (0, 0)) ∧ V.heap[w.heap.size + 2]? = some (.cells #[.int .i64 n] 3 (0, 0)) ∧ Got w.heap.size (w.heap.size + 13) (part (bufs l0 l1) ps off n pre.length) V)
    (fun c pre V => c = .exit 0 ∧ Below w.heap.size w V ∧ Got w.heap.size (w.heap.size + 13) ((T.drop off).take n) V) ?hI ?hIx ⟨bi, e0, e1, e2, hg0⟩ ?round ?done ?stop
  case hI =>
    exact OwnFrom.and (own_below (by omega) (by omega)) (OwnFrom.and (own_heap (by omega) _) (OwnFrom.and (own_heap (by omega) _) (OwnFrom.and (own_heap (by omega) _) (got_own (by omega) _))))
  case hIx =>
    rintro c s A B row ⟨hc, hb, hg⟩ hgr hr
    exact ⟨hc, own_below (B := Wi.heap.size) (α := Nat) (w := w) (by omega) (by omega) [] A B row hb hgr hr, got_own (α := Nat) (by omega) (fun _ => _) [] A B row hg hgr hr⟩
  case round =>
    rintro l' pre x V0 ⟨rest, hpr⟩ hsz0 ⟨hB0, h0, h1, h2, hG0⟩
    obtain ⟨hk, hx0⟩ := VecP.range_at _ _ pre x rest hpr
    obtain ⟨q, hq⟩ : ∃ q, ps[pre.length]? = some q := ⟨_, List.getElem?_eq_getElem hk⟩
    have hx : x = (pre.length, q) := by rw [hx0, List.getD_eq_getElem?_getD, hq]; rfl
    clear hx0
    subst hx
    clear hpr
    have HK := Lib.hid hk
    have HQ := Lib.hid hq
    clear hk hq
    obtain ⟨qb, qs, qz⟩ := q
    dsimp only [Pc.val]
    gi_wp2
    refine ⟨(Keep.refl _ _ _).alloc _ hsz0, (Fr.refl _ _).alloc _, ⟨hB0.alloc (by omega) _, (Below.heap_alloc _ _ _ (by omega)).trans h0, (Below.heap_alloc _ _ _ (by omega)).trans h1, (Below.heap_alloc _ _ _ (by omega)).trans h2, (got_own (α := Nat) (B := Wi.heap.size) (by omega) (fun _ => _)).alloc (s := []) _ hG0⟩, ?_⟩
    rintro V2 hgr hl' - hsz2 ⟨hB, g0, g1, g2, hG⟩
    have gx : V2.heap[V0.heap.size]? = some (.cells #[.int .i64 qb, .int .i64 qs, .int .i64 qz] E (0, 0)) := (hgr.block _ (by simp) (by intro e; injection e with e; omega)).trans (heap_alloc_new V0 _)
    have hV2 : V0.heap.size < V2.heap.size := by have := hgr.size; simp at this; omega
    clear h0 h1 h2 hG0 hB0 hgr
    obtain ⟨B, hBx⟩ : ∃ B, B = V0.heap.size := ⟨_, rfl⟩
    rw [← hBx] at gx hV2 ⊢
    have hNB : w.heap.size + 13 ≤ B := by omega
    obtain ⟨G, hGe⟩ : ∃ G, G = part (bufs l0 l1) ps off n pre.length := ⟨_, rfl⟩
    rw [← hGe] at hG
    have hGn : G.length ≤ n := by rw [hGe]; exact part_le _ _ _ _ _
    obtain ⟨d, hd⟩ : ∃ d, d = off - tot (ps.take pre.length) := ⟨_, rfl⟩
    rw [← hd] at g1
    have hd6 : d ≤ off := by omega
    have hqo := HH.out.ok _ (List.mem_of_getElem? HQ.out)
    have hz6 : qz ≤ T.length := by
      have h1 := tot_take_succ ps pre.length _ HQ.out
      have h2 := tot_take_le ps (pre.length + 1)
      have h3 := HH.out.tot_len
      dsimp only at h1
      omega
    obtain ⟨ob, oc, g4, hrow, hob⟩ := hG
    have x0 : V2.cell? ⟨B, 0, none⟩ = some (.int .i64 qb) := (cell_of_row V2 _ 0 _ _ _ gx).trans (by simp)
    have x1 : V2.cell? ⟨B, 1, none⟩ = some (.int .i64 qs) := (cell_of_row V2 _ 1 _ _ _ gx).trans (by simp)
    have x2 : V2.cell? ⟨B, 2, none⟩ = some (.int .i64 qz) := (cell_of_row V2 _ 2 _ _ _ gx).trans (by simp)
    have y0 : V2.cell? ⟨w.heap.size, 0, none⟩ = some (.pointer (some ⟨t, 0, none⟩)) := (cell_of_row V2 _ 0 _ _ _ g0).trans (by simp)
    have y1 : V2.cell? ⟨w.heap.size + 1, 0, none⟩ = some (.int .i64 d) := (cell_of_row V2 _ 0 _ _ _ g1).trans (by simp)
    have y2 : V2.cell? ⟨w.heap.size + 2, 0, none⟩ = some (.int .i64 n) := (cell_of_row V2 _ 0 _ _ _ g2).trans (by simp)
    have y4 : V2.cell? ⟨w.heap.size + 4, 0, none⟩ = some (.slice ob G.length oc) := (cell_of_row V2 _ 0 _ _ _ g4).trans (by simp)
    have hby : ∀ U, Below V2.heap.size V2 U → Calls Tryz.prog 62 #[.pointer (some ⟨t, 0, none⟩), .agg #[.int .i64 qb, .int .i64 qs, .int .i64 qz]] U _ := fun U hU => bytes_any ((HH.out.below hB).below hU) ⟨qb, qs, qz⟩ (List.mem_of_getElem? HQ.out)
    have hN4 : ¬ (ab ob = some (w.heap.size + 4)) := fun e => by
      obtain ⟨cur, hcur⟩ := own_type hrow e
      exact ne_type hcur g4 (by decide) rfl
    have z4 : V2.frozen? ⟨w.heap.size + 4, 0, none⟩ = false := frozen_of_row V2 _ 0 _ _ g4
    have HGE := Lib.hid hGe
    have HD := Lib.hid hd
    have HB := Lib.hid hB
    have HG := Lib.hid (And.intro g0 (And.intro g1 (And.intro g2 (And.intro g4 (And.intro hrow hob)))))
    have HBX := Lib.hid gx
    have HQO := Lib.hid hqo
    have HBYC := Lib.hid hby
    clear hGe hd hB g0 g1 g2 g4 hrow hob gx hBx hqo hby
    by_cases hbr : G.length = n
    · have hbe : ((G.length : Int) == (n : Int)) = true := by simp [hbr]
      have HBR := Lib.hid hbr
      clear hbr
      gi_wp2
      obtain ⟨g0, g1, g2, g4, hrow, hob⟩ := HG.out
      have hGf : G = (T.drop off).take n := by
        have h1 := part_full (B := bufs l0 l1) (ps := ps) (off := off) (n := n) (k := pre.length) (by rw [← HGE.out]; exact HBR.out)
        rw [← HGE.out, HH.out.text] at h1
        exact h1
      exact ⟨Keep.refl _ _ _, rfl, HB.out, ob, oc, hGf ▸ g4, hGf ▸ hrow, hob⟩
    · have hbe : ((G.length : Int) == (n : Int)) = false := by simp; omega
      obtain ⟨f, hf⟩ : ∃ f, f = min d qz := ⟨_, rfl⟩
      obtain ⟨g, hg⟩ : ∃ g, g = min (f + n - G.length) qz := ⟨_, rfl⟩
      have hm1 : min (d : Int) (qz : Int) = (f : Int) := by omega
      have hm2 : min ((f : Int) + n - (G.length : Int)) (qz : Int) = (g : Int) := by omega
      have hfg : f ≤ g := by omega
      have hgz : g ≤ qz := by omega
      have hfd : f ≤ d := by omega
      have HF := Lib.hid (And.intro hf hg)
      clear hf hg hbr
      gi_wp2
      have happ : ∀ (V5 : World) (gb cc : Nat), SrcV V5 1 (.slice (some ⟨gb, qs, none⟩) qz cc) qz (bcells (Pc.txt (bufs l0 l1) ⟨qb, qs, qz⟩)) → _ := fun V5 gb cc hs => app_src hs HQO.out.2.1 hfg hgz
      have HAPP := Lib.hid happ
      clear happ hm1 hm2 hbe y1 y2 m1 m2 m3 m4 n1 n2 n3 n4 n5 k2
      obtain ⟨S, hSd⟩ : ∃ S : World → Prop, S = fun w' => w'.cell? ⟨w.heap.size, 0, none⟩ = some (.pointer (some ⟨t, 0, none⟩)) ∧ w'.cell? ⟨B, 0, none⟩ = some (.int .i64 qb) ∧ w'.cell? ⟨B, 1, none⟩ = some (.int .i64 qs) ∧ w'.cell? ⟨B, 2, none⟩ = some (.int .i64 qz) := ⟨_, rfl⟩
      have hSi : ∀ w', S w' → w'.cell? ⟨w.heap.size, 0, none⟩ = some (.pointer (some ⟨t, 0, none⟩)) ∧ w'.cell? ⟨B, 0, none⟩ = some (.int .i64 qb) ∧ w'.cell? ⟨B, 1, none⟩ = some (.int .i64 qs) ∧ w'.cell? ⟨B, 2, none⟩ = some (.int .i64 qz) := fun w' h => by rw [hSd] at h; exact h
      have hS0 : S V2.drew := by rw [hSd]; exact ⟨y0, x0, x1, x2⟩
      have hSF : ∀ w', Fr (fun k => k = w.heap.size + 4 ∨ ab ob = some k) V2 w' → S w' := fun w' hf => by
        have hBo : ab ob ≠ some B := fun e => by
          obtain ⟨cur, hcur⟩ := own_type HG.out.2.2.2.2.1 e
          exact ne_type hcur HBX.out (by decide) rfl
        have hNo : ab ob ≠ some w.heap.size := fun e => by have := (HG.out.2.2.2.2.1.lt _ (by rw [ab_own]; exact e)).1; omega
        have hb : ∀ j, ¬ ((⟨B, j, none⟩ : Addr).block = w.heap.size + 4 ∨ ab ob = some (⟨B, j, none⟩ : Addr).block) := fun j e => e.elim (fun e => by have h1 : B = w.heap.size + 4 := e; omega) hBo
        rw [hSd]
        exact ⟨hf.cell y0 (fun e => e.elim (fun e => by have h1 : w.heap.size = w.heap.size + 4 := e; omega) hNo), hf.cell x0 (hb 0), hf.cell x1 (hb 1), hf.cell x2 (hb 2)⟩
      have HSF := Lib.hid hSF
      have HSI := Lib.hid hSi
      clear hSd hSF hSi
      refine wpIn_region_round S hmx (by kernel_rfl) (by rintro ⟨_, _, h⟩; exact h) ?_
      refine wpAnyH_take (i := 4) (v := .int .i64 f) rfl (by kernel_rfl) (by kernel_rfl) (by kernel_rfl) (fun _ _ _ h => h) (Or.inl ⟨by rfl, fun w _ => by go_simp⟩) hS0 ?_
      simp only [Act.put]
      refine wpAnyH_take (i := 5) (v := .int .i64 g) rfl (by kernel_rfl) (by kernel_rfl) (by kernel_rfl) (fun _ _ _ h => h) (Or.inl ⟨by rfl, fun w _ => by go_simp⟩) hS0 ?_
      simp only [Act.put]
      refine wpAnyH_take (i := 1) (v := .pointer (some ⟨t, 0, none⟩)) rfl (by kernel_rfl) (by kernel_rfl) (by kernel_rfl) (fun _ _ _ h => h) (Or.inl ⟨by rfl, fun w' hw => by obtain ⟨s0, s1, s2, s3⟩ := HSI.out w' hw; go_simp⟩) hS0 ?_
      simp only [Act.put]
      refine wpAnyH_take (i := 2) (v := .agg #[.int .i64 qb, .int .i64 qs, .int .i64 qz]) rfl (by kernel_rfl) (by kernel_rfl) (by kernel_rfl) (fun _ _ _ h => h) (Or.inl ⟨by rfl, fun w' hw => by obtain ⟨s0, s1, s2, s3⟩ := HSI.out w' hw; go_simp⟩) hS0 ?_
      simp only [Act.put]
      refine wpAnyH_ready (rs := [0, 3]) (by kernel_rfl) (by simp) ?_
      refine AllReadyH.cons rfl (fun K hK => ?_) (AllReadyH.cons rfl (fun K hK => ?_) AllReadyH.nil)
      · go_simp
        refine hK.out _ _ hS0 (fun _ => ?_)
        clear hK K
        try simp only [Act.put]
        refine wpAnyH_ready (rs := [3]) (by kernel_rfl) (by simp) ?_
        refine AllReadyH.cons rfl (fun K hK => ?_) AllReadyH.nil
        go_simp
        refine (HBYC.out _ (Below.refl _ _).drew).mono ?_
        rintro e V5 ⟨gb, cc, rfl, hsrc, hgl, hb5⟩
        have hb5' : Below V2.heap.size V2 V5 := ⟨hb5.os, hb5.tape, hb5.output, hb5.size, hb5.block⟩
        have g45 : V5.heap[w.heap.size + 4]? = some (.cells #[.slice ob G.length oc] 37 (0, 0)) := (hb5'.block _ (by omega)).trans HG.out.2.2.2.1
        have y45 : V5.cell? ⟨w.heap.size + 4, 0, none⟩ = some (.slice ob G.length oc) := (cell_of_row V5 _ 0 _ _ _ g45).trans (by simp)
        obtain ⟨A, hA, hgc, hfc, hcc, HSA⟩ := HAPP.out V5 gb cc (hsrc.below hb5)
        have hS5 : S V5 := HSF.out V5 (Fr.ofBelow hb5' _)
        have HB5 := Lib.hid (And.intro hb5' g45)
        clear hb5 hb5' hsrc hgl g45
        refine hK.out _ _ hS5 (fun _ => ?_)
        clear hK K
        try simp only [Act.put]
        refine wpAnyH_take (i := 6) (v := .slice (some A) (g - f) (cc - f)) rfl (by kernel_rfl) (by kernel_rfl) (by kernel_rfl) (fun _ _ _ h => h) (Or.inl ⟨by rfl, fun w' hw => by go_simp⟩) hS5 ?_
        try simp only [Act.put]
        refine wpAnyH_ready (rs := [7]) (by kernel_rfl) (by simp) ?_
        refine AllReadyH.cons rfl (fun K hK => ?_) AllReadyH.nil
        refine step_append_srcv rfl (.tmp 44) (.tmp 50) 37 rfl (w.heap.size + 3) TU i0 (.int .u8 0) 1 1 underB hi0 hz0 hz1 hz2 rfl (by decide) (.slice ob G.length oc) G.length (bcells G) (by simp [Act.eval]) (ownsRow_fr HG.out.2.2.2.2.1 (Fr.ofBelow HB5.out.1 (fun _ => False)) (by simp)) (.slice (some A) (g - f) (cc - f)) (g - f) _ (by simp [Act.eval]) HSA.out (by simp only [maxLen]; omega) (by omega) (by have := (Array.getElem?_eq_some_iff.1 HB5.out.2).1; omega) ?_
        intro b' c' w6 hown hgr6 hnr
        rw [ab_own] at hgr6
        have g46 : w6.heap[w.heap.size + 4]? = some (.cells #[.slice ob G.length oc] 37 (0, 0)) := (hgr6.block _ (Array.getElem?_eq_some_iff.1 HB5.out.2).1 (fun e => hN4 e.symm)).trans HB5.out.2
        have y46 : w6.cell? ⟨w.heap.size + 4, 0, none⟩ = some (.slice ob G.length oc) := (cell_of_row w6 _ 0 _ _ _ g46).trans (by simp)
        have z46 : w6.frozen? ⟨w.heap.size + 4, 0, none⟩ = false := frozen_of_row w6 _ 0 _ _ g46
        have hf6 : Fr (fun k => k = w.heap.size + 4 ∨ ab ob = some k) V2 w6 := (Fr.ofBelow HB5.out.1 _).trans (Fr.grown (Fr.refl _ V5) hgr6 (fun k e _ => .inr e))
        have hf7 : Fr (fun k => k = w.heap.size + 4 ∨ ab ob = some k) V2 (w6.setCell ⟨w.heap.size + 4, 0, none⟩ (.slice b' (G.length + (g - f)) c')) := hf6.setCell (fun _ => .inl rfl) _
        have hS6 := HSF.out w6 hf6
        have hS7 := HSF.out _ hf7
        have H6 := Lib.hid (And.intro hown (And.intro hgr6 (And.intro hnr (And.intro g46 hf7))))
        clear hown hgr6 hnr g46 hf6 hf7
        refine hK.out _ _ hS6 (fun _ => ?_)
        clear hK K
        try simp only [Act.put]
        refine wpAnyH_ready (rs := [8]) (by kernel_rfl) (by simp) ?_
        refine AllReadyH.cons rfl (fun K hK => ?_) AllReadyH.nil
        go_simp
        refine hK.out _ _ hS7 (fun _ => ?_)
        clear hK K
        try simp only [Act.put]
        refine wpAnyH_done (by kernel_rfl) ?_ _
        refine name_post ?_
        intro V7 hV7
        replace hV7 : V7 = w6.setCell ⟨w.heap.size + 4, 0, none⟩ (.slice b' (G.length + (g - f)) c') := hV7
        obtain ⟨hown, hgr6, hnr, g46, hf7⟩ := H6.out
        rw [← hV7] at hf7
        have hS47 : ∀ k, k < w.heap.size + 3 → ¬ (k = w.heap.size + 4 ∨ ab ob = some k) := fun k hk e => e.elim (fun e => by omega) (fun e => by have := (HG.out.2.2.2.2.1.lt _ (by rw [ab_own]; exact e)).1; omega)
        have k1 : V7.heap[w.heap.size + 1]? = some (.cells #[.int .i64 d] 3 (0, 0)) := (hf7.block _ (by omega) (hS47 _ (by omega))).trans HG.out.2.1
        have k0 : V7.heap[w.heap.size]? = some (.cells #[.pointer (some ⟨t, 0, none⟩)] 56 (0, 0)) := (hf7.block _ (by omega) (hS47 _ (by omega))).trans HG.out.1
        have k2 : V7.heap[w.heap.size + 2]? = some (.cells #[.int .i64 n] 3 (0, 0)) := (hf7.block _ (by omega) (hS47 _ (by omega))).trans HG.out.2.2.1
        have k4 : V7.heap[w.heap.size + 4]? = some (.cells #[.slice b' (G.length + (g - f)) c'] 37 (0, 0)) := by
          rw [hV7, heap_setCell_same _ _ _ _ _ _ g46]; simp
        have q1 : V7.cell? ⟨w.heap.size + 1, 0, none⟩ = some (.int .i64 d) := (cell_of_row V7 _ 0 _ _ _ k1).trans (by simp)
        have z1 : V7.frozen? ⟨w.heap.size + 1, 0, none⟩ = false := frozen_of_row V7 _ 0 _ _ k1
        have hb4 : ab b' ≠ some (w.heap.size + 4) := fun e => by
          obtain ⟨cur, hcur⟩ := own_type hown e
          exact ne_type hcur g46 (by decide) rfl
        have hrow7 : V7.ownsRow (w.heap.size + 3) TU 1 (.slice b' (G.length + (g - f)) c') (G.length + (g - f)) (bcells (G ++ ((Pc.txt (bufs l0 l1) ⟨qb, qs, qz⟩).drop f).take (g - f))) := by
          rw [bcells_append, hV7]
          exact ownsRow_fr hown ((Fr.refl (fun k => k = w.heap.size + 4) w6).setCell (p := ⟨w.heap.size + 4, 0, none⟩) (fun _ => rfl) _) (fun k hk e => by rw [ab_own] at hk; exact hb4 (e ▸ hk))
        have hbb : ∀ k, ab b' = some k → k = w.heap.size + 3 ∨ w.heap.size + 13 ≤ k := fun k hk => by
          rcases hnr with h | ⟨k', h, hk'⟩
          · rw [ab_own, ab_own] at h; exact HG.out.2.2.2.2.2 k (h ▸ hk)
          · rw [ab_own] at h; rw [h] at hk; injection hk with hk
            have := HB5.out.1.size
            exact .inr (by omega)
        have H7 := Lib.hid (And.intro hf7 (And.intro k0 (And.intro k1 (And.intro k2 (And.intro k4 (And.intro hrow7 hbb))))))
        clear hV7 hown hgr6 hnr g46 hf7 k0 k1 k2 k4 hrow7 hbb hS47 hS6 hS7 hS5 hS0 y45 y46 z46 hA
        gi_wp2
        obtain ⟨hf7, k0, k1, k2, k4, hrow7, hbb⟩ := H7.out
        have hf8 : Fr (fun k => k = w.heap.size + 1 ∨ k = w.heap.size + 4 ∨ ab ob = some k) V2 (V7.setCell ⟨w.heap.size + 1, 0, none⟩ (.int .i64 ((d : Int) - f))) := (hf7.mono (fun _ _ h => .inr h)).setCell (fun _ => .inl rfl) _
        have hfo : ∀ k, (k = w.heap.size + 1 ∨ k = w.heap.size + 4 ∨ ab ob = some k) → (k = w.heap.size + 1 ∨ k = w.heap.size + 4 ∨ k = w.heap.size + 3 ∨ w.heap.size + 13 ≤ k) := fun k h => by
          rcases h with h | h | h
          · exact .inl h
          · exact .inr (.inl h)
          · rcases HG.out.2.2.2.2.2 k h with h | h
            · exact .inr (.inr (.inl h))
            · exact .inr (.inr (.inr h))
        obtain ⟨hps, -, hgq⟩ := part_succ HH.out.ok (off := off) (n := n) HQ.out f g (by rw [← HD.out]; exact HF.out.1) (by rw [← HGE.out]; exact HF.out.2)
        have htl : (Pc.txt (bufs l0 l1) ⟨qb, qs, qz⟩).length = qz := Pc.txt_length HQO.out
        have hgl2 : (((Pc.txt (bufs l0 l1) ⟨qb, qs, qz⟩).drop f).take (g - f)).length = g - f := by
          rw [List.length_take, List.length_drop, htl]; omega
        have hl8 : (pre ++ [(pre.length, (⟨qb, qs, qz⟩ : Pc))]).length = pre.length + 1 := by simp
        have o8 : ∀ k, k ≠ w.heap.size + 1 → (V7.setCell ⟨w.heap.size + 1, 0, none⟩ (.int .i64 ((d : Int) - f))).heap[k]? = V7.heap[k]? := fun k hk => heap_setCell_other V7 ⟨w.heap.size + 1, 0, none⟩ k _ hk
        refine ⟨Keep.ofFr hf8 (by omega) (fun k hk => by have := hfo k hk; omega), hf8.mono (fun k _ hk => by have := hfo k hk; omega), HB.out.trans (hf8.below (by omega) (fun k hk => by have := hfo k hk; omega)), (o8 _ (by omega)).trans k0, ?_, (o8 _ (by omega)).trans k2, b', c', ?_, ?_, hbb⟩
        · have h1 := tot_take_succ ps pre.length _ HQ.out
          dsimp only at h1
          have hdz : (d : Int) - f = ((off - tot (ps.take (pre ++ [(pre.length, (⟨qb, qs, qz⟩ : Pc))]).length) : Nat) : Int) := by
            rw [hl8, h1]
            have := HD.out
            have := HF.out.1
            omega
          rw [heap_setCell_same _ _ _ _ _ _ k1, hdz]; simp
        · rw [hl8, hps, ← HGE.out, List.length_append, hgl2]
          exact (o8 _ (by omega)).trans k4
        · rw [hl8, hps, ← HGE.out, List.length_append, hgl2]
          exact ownsRow_fr hrow7 ((Fr.refl (fun k => k = w.heap.size + 1) V7).setCell (p := ⟨w.heap.size + 1, 0, none⟩) (fun _ => rfl) _) (fun k hk e => by have := (hrow7.lt k hk).1; omega)
      · go_simp
        refine (HBYC.out _ (Below.refl _ _).drew).mono ?_
        rintro e V5 ⟨gb, cc, rfl, hsrc, hgl, hb5⟩
        have hb5' : Below V2.heap.size V2 V5 := ⟨hb5.os, hb5.tape, hb5.output, hb5.size, hb5.block⟩
        have g45 : V5.heap[w.heap.size + 4]? = some (.cells #[.slice ob G.length oc] 37 (0, 0)) := (hb5'.block _ (by omega)).trans HG.out.2.2.2.1
        have y45 : V5.cell? ⟨w.heap.size + 4, 0, none⟩ = some (.slice ob G.length oc) := (cell_of_row V5 _ 0 _ _ _ g45).trans (by simp)
        obtain ⟨A, hA, hgc, hfc, hcc, HSA⟩ := HAPP.out V5 gb cc (hsrc.below hb5)
        have hS5 : S V5 := HSF.out V5 (Fr.ofBelow hb5' _)
        have HB5 := Lib.hid (And.intro hb5' g45)
        clear hb5 hb5' hsrc hgl g45
        refine hK.out _ _ hS5 (fun _ => ?_)
        clear hK K
        try simp only [Act.put]
        refine wpAnyH_take (i := 6) (v := .slice (some A) (g - f) (cc - f)) rfl (by kernel_rfl) (by kernel_rfl) (by kernel_rfl) (fun _ _ _ h => h) (Or.inl ⟨by rfl, fun w' hw => by go_simp⟩) hS5 ?_
        try simp only [Act.put]
        refine wpAnyH_ready (rs := [0]) (by kernel_rfl) (by simp) ?_
        refine AllReadyH.cons rfl (fun K hK => ?_) AllReadyH.nil
        go_simp
        refine hK.out _ _ hS5 (fun _ => ?_)
        clear hK K
        try simp only [Act.put]
        refine wpAnyH_ready (rs := [7]) (by kernel_rfl) (by simp) ?_
        refine AllReadyH.cons rfl (fun K hK => ?_) AllReadyH.nil
        refine step_append_srcv rfl (.tmp 44) (.tmp 50) 37 rfl (w.heap.size + 3) TU i0 (.int .u8 0) 1 1 underB hi0 hz0 hz1 hz2 rfl (by decide) (.slice ob G.length oc) G.length (bcells G) (by simp [Act.eval]) (ownsRow_fr HG.out.2.2.2.2.1 (Fr.ofBelow HB5.out.1 (fun _ => False)) (by simp)) (.slice (some A) (g - f) (cc - f)) (g - f) _ (by simp [Act.eval]) HSA.out (by simp only [maxLen]; omega) (by omega) (by have := (Array.getElem?_eq_some_iff.1 HB5.out.2).1; omega) ?_
        intro b' c' w6 hown hgr6 hnr
        rw [ab_own] at hgr6
        have g46 : w6.heap[w.heap.size + 4]? = some (.cells #[.slice ob G.length oc] 37 (0, 0)) := (hgr6.block _ (Array.getElem?_eq_some_iff.1 HB5.out.2).1 (fun e => hN4 e.symm)).trans HB5.out.2
        have y46 : w6.cell? ⟨w.heap.size + 4, 0, none⟩ = some (.slice ob G.length oc) := (cell_of_row w6 _ 0 _ _ _ g46).trans (by simp)
        have z46 : w6.frozen? ⟨w.heap.size + 4, 0, none⟩ = false := frozen_of_row w6 _ 0 _ _ g46
        have hf6 : Fr (fun k => k = w.heap.size + 4 ∨ ab ob = some k) V2 w6 := (Fr.ofBelow HB5.out.1 _).trans (Fr.grown (Fr.refl _ V5) hgr6 (fun k e _ => .inr e))
        have hf7 : Fr (fun k => k = w.heap.size + 4 ∨ ab ob = some k) V2 (w6.setCell ⟨w.heap.size + 4, 0, none⟩ (.slice b' (G.length + (g - f)) c')) := hf6.setCell (fun _ => .inl rfl) _
        have hS6 := HSF.out w6 hf6
        have hS7 := HSF.out _ hf7
        have H6 := Lib.hid (And.intro hown (And.intro hgr6 (And.intro hnr (And.intro g46 hf7))))
        clear hown hgr6 hnr g46 hf6 hf7
        refine hK.out _ _ hS6 (fun _ => ?_)
        clear hK K
        try simp only [Act.put]
        refine wpAnyH_ready (rs := [8]) (by kernel_rfl) (by simp) ?_
        refine AllReadyH.cons rfl (fun K hK => ?_) AllReadyH.nil
        go_simp
        refine hK.out _ _ hS7 (fun _ => ?_)
        clear hK K
        try simp only [Act.put]
        refine wpAnyH_done (by kernel_rfl) ?_ _
        refine name_post ?_
        intro V7 hV7
        replace hV7 : V7 = w6.setCell ⟨w.heap.size + 4, 0, none⟩ (.slice b' (G.length + (g - f)) c') := hV7
        obtain ⟨hown, hgr6, hnr, g46, hf7⟩ := H6.out
        rw [← hV7] at hf7
        have hS47 : ∀ k, k < w.heap.size + 3 → ¬ (k = w.heap.size + 4 ∨ ab ob = some k) := fun k hk e => e.elim (fun e => by omega) (fun e => by have := (HG.out.2.2.2.2.1.lt _ (by rw [ab_own]; exact e)).1; omega)
        have k1 : V7.heap[w.heap.size + 1]? = some (.cells #[.int .i64 d] 3 (0, 0)) := (hf7.block _ (by omega) (hS47 _ (by omega))).trans HG.out.2.1
        have k0 : V7.heap[w.heap.size]? = some (.cells #[.pointer (some ⟨t, 0, none⟩)] 56 (0, 0)) := (hf7.block _ (by omega) (hS47 _ (by omega))).trans HG.out.1
        have k2 : V7.heap[w.heap.size + 2]? = some (.cells #[.int .i64 n] 3 (0, 0)) := (hf7.block _ (by omega) (hS47 _ (by omega))).trans HG.out.2.2.1
        have k4 : V7.heap[w.heap.size + 4]? = some (.cells #[.slice b' (G.length + (g - f)) c'] 37 (0, 0)) := by
          rw [hV7, heap_setCell_same _ _ _ _ _ _ g46]; simp
        have q1 : V7.cell? ⟨w.heap.size + 1, 0, none⟩ = some (.int .i64 d) := (cell_of_row V7 _ 0 _ _ _ k1).trans (by simp)
        have z1 : V7.frozen? ⟨w.heap.size + 1, 0, none⟩ = false := frozen_of_row V7 _ 0 _ _ k1
        have hb4 : ab b' ≠ some (w.heap.size + 4) := fun e => by
          obtain ⟨cur, hcur⟩ := own_type hown e
          exact ne_type hcur g46 (by decide) rfl
        have hrow7 : V7.ownsRow (w.heap.size + 3) TU 1 (.slice b' (G.length + (g - f)) c') (G.length + (g - f)) (bcells (G ++ ((Pc.txt (bufs l0 l1) ⟨qb, qs, qz⟩).drop f).take (g - f))) := by
          rw [bcells_append, hV7]
          exact ownsRow_fr hown ((Fr.refl (fun k => k = w.heap.size + 4) w6).setCell (p := ⟨w.heap.size + 4, 0, none⟩) (fun _ => rfl) _) (fun k hk e => by rw [ab_own] at hk; exact hb4 (e ▸ hk))
        have hbb : ∀ k, ab b' = some k → k = w.heap.size + 3 ∨ w.heap.size + 13 ≤ k := fun k hk => by
          rcases hnr with h | ⟨k', h, hk'⟩
          · rw [ab_own, ab_own] at h; exact HG.out.2.2.2.2.2 k (h ▸ hk)
          · rw [ab_own] at h; rw [h] at hk; injection hk with hk
            have := HB5.out.1.size
            exact .inr (by omega)
        have H7 := Lib.hid (And.intro hf7 (And.intro k0 (And.intro k1 (And.intro k2 (And.intro k4 (And.intro hrow7 hbb))))))
        clear hV7 hown hgr6 hnr g46 hf7 k0 k1 k2 k4 hrow7 hbb hS47 hS6 hS7 hS5 hS0 y45 y46 z46 hA
        gi_wp2
        obtain ⟨hf7, k0, k1, k2, k4, hrow7, hbb⟩ := H7.out
        have hf8 : Fr (fun k => k = w.heap.size + 1 ∨ k = w.heap.size + 4 ∨ ab ob = some k) V2 (V7.setCell ⟨w.heap.size + 1, 0, none⟩ (.int .i64 ((d : Int) - f))) := (hf7.mono (fun _ _ h => .inr h)).setCell (fun _ => .inl rfl) _
        have hfo : ∀ k, (k = w.heap.size + 1 ∨ k = w.heap.size + 4 ∨ ab ob = some k) → (k = w.heap.size + 1 ∨ k = w.heap.size + 4 ∨ k = w.heap.size + 3 ∨ w.heap.size + 13 ≤ k) := fun k h => by
          rcases h with h | h | h
          · exact .inl h
          · exact .inr (.inl h)
          · rcases HG.out.2.2.2.2.2 k h with h | h
            · exact .inr (.inr (.inl h))
            · exact .inr (.inr (.inr h))
        obtain ⟨hps, -, hgq⟩ := part_succ HH.out.ok (off := off) (n := n) HQ.out f g (by rw [← HD.out]; exact HF.out.1) (by rw [← HGE.out]; exact HF.out.2)
        have htl : (Pc.txt (bufs l0 l1) ⟨qb, qs, qz⟩).length = qz := Pc.txt_length HQO.out
        have hgl2 : (((Pc.txt (bufs l0 l1) ⟨qb, qs, qz⟩).drop f).take (g - f)).length = g - f := by
          rw [List.length_take, List.length_drop, htl]; omega
        have hl8 : (pre ++ [(pre.length, (⟨qb, qs, qz⟩ : Pc))]).length = pre.length + 1 := by simp
        have o8 : ∀ k, k ≠ w.heap.size + 1 → (V7.setCell ⟨w.heap.size + 1, 0, none⟩ (.int .i64 ((d : Int) - f))).heap[k]? = V7.heap[k]? := fun k hk => heap_setCell_other V7 ⟨w.heap.size + 1, 0, none⟩ k _ hk
        refine ⟨Keep.ofFr hf8 (by omega) (fun k hk => by have := hfo k hk; omega), hf8.mono (fun k _ hk => by have := hfo k hk; omega), HB.out.trans (hf8.below (by omega) (fun k hk => by have := hfo k hk; omega)), (o8 _ (by omega)).trans k0, ?_, (o8 _ (by omega)).trans k2, b', c', ?_, ?_, hbb⟩
        · have h1 := tot_take_succ ps pre.length _ HQ.out
          dsimp only at h1
          have hdz : (d : Int) - f = ((off - tot (ps.take (pre ++ [(pre.length, (⟨qb, qs, qz⟩ : Pc))]).length) : Nat) : Int) := by
            rw [hl8, h1]
            have := HD.out
            have := HF.out.1
            omega
          rw [heap_setCell_same _ _ _ _ _ _ k1, hdz]; simp
        · rw [hl8, hps, ← HGE.out, List.length_append, hgl2]
          exact (o8 _ (by omega)).trans k4
        · rw [hl8, hps, ← HGE.out, List.length_append, hgl2]
          exact ownsRow_fr hrow7 ((Fr.refl (fun k => k = w.heap.size + 1) V7).setCell (p := ⟨w.heap.size + 1, 0, none⟩) (fun _ => rfl) _) (fun k hk e => by have := (hrow7.lt k hk).1; omega)
  case done =>
    rintro D V hD ⟨hB, h0, h1, h2, hG⟩ hk
    rw [List.length_map, List.length_range] at hG
    obtain ⟨GG, hGG⟩ : ∃ GG, GG = (T.drop off).take n := ⟨_, rfl⟩
    rw [part_all, HH.out.text, ← hGG] at hG
    have HGG := Lib.hid hGG
    clear hGG h0 h1 h2
    obtain ⟨b, c, g4, hrow, -⟩ := hG
    have hcv := conv_own hrow
    have y4 : V.cell? ⟨w.heap.size + 4, 0, none⟩ = some (.slice b GG.length c) := (cell_of_row V _ 0 _ _ _ g4).trans (by simp)
    have HK := Lib.hid hk
    have HB := Lib.hid hB
    clear hrow g4 hk hB m1 m2 m3 m4 n1 n2 n3 n4 n5 k2
    gi_wp2
    refine ⟨by simp, .inl ⟨_, _, rfl, run_takeDeferred HK.out, ?_⟩⟩
    have hbel : Below w.heap.size w (V.putObj D (.deferred none)) := HB.out.grown (grownBy_putObj' _ D _) HB.out.size (fun k e => by cases e; omega)
    refine ⟨.tuple #[.string ⟨GG.toArray⟩, .int .i64 0], ?_, by rw [HGG.out], hbel⟩
    simp [results, Tryz.results39, go_sem]
  case stop =>
    rintro D c pre V hD hpre hne ⟨rfl, hB, hG⟩ hk
    obtain ⟨GG, hGG⟩ : ∃ GG, GG = (T.drop off).take n := ⟨_, rfl⟩
    rw [← hGG] at hG
    have HGG := Lib.hid hGG
    clear hGG
    obtain ⟨b, c, g4, hrow, -⟩ := hG
    have hcv := conv_own hrow
    have y4 : V.cell? ⟨w.heap.size + 4, 0, none⟩ = some (.slice b GG.length c) := (cell_of_row V _ 0 _ _ _ g4).trans (by simp)
    have HK := Lib.hid hk
    have HB := Lib.hid hB
    clear hrow g4 hk hB m1 m2 m3 m4 n1 n2 n3 n4 n5 k2
    gi_wp2
    refine ⟨by simp, .inl ⟨_, _, rfl, run_takeDeferred HK.out, ?_⟩⟩
    have hbel : Below w.heap.size w (V.putObj D (.deferred none)) := HB.out.grown (grownBy_putObj' _ D _) HB.out.size (fun k e => by cases e; omega)
    refine ⟨.tuple #[.string ⟨GG.toArray⟩, .int .i64 0], ?_, by rw [HGG.out], hbel⟩
    simp [results, Tryz.results39, go_sem]
end
end Go.Proofs.YtfllgmgipmmpkaaGreatDoor.Tb
