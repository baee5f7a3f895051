/-
  Package span: the part of a line that belongs to a range; Text.
-/
import Derived.Test.YtkddnknjjdenhaaSr
set_option linter.unusedVariables false
set_option linter.unusedSimpArgs false
set_option maxRecDepth 100000
namespace Go.Proofs.Ytkddnknjjdenhaa.So
open Go Go.RowKit Go.Proofs.Ytkddnknjjdenhaa.Vk Go.Proofs.Ytkddnknjjdenhaa.Str Go.Proofs.Ytkddnknjjdenhaa.Ln Go.Proofs.Ytkddnknjjdenhaa.Cl Go.Shelf
attribute [local go_sem] Oper.semAt_some

theorem frK {S : Nat → Prop} {B : Nat} {w : World} (hB : B ≤ w.heap.size) : ∀ (V : World) (l : Nat) (o o' : Obj), w.heap.size ≤ l → V.heap[l]? = some o → o.isCells = false → o.isWalk = false → Fr (fun k => S k ∨ B ≤ k) V (V.putObj l o') :=
  fun V l o o' hl ho _ _ => Fr.grown (Fr.refl _ V) (grownBy_putObj' V l o') (fun k e _ => by cases e; exact .inr (by omega))
theorem own_below {α : Type} {B B0 : Nat} {w : World} (h1 : B0 ≤ w.heap.size) (hB : B0 ≤ B) : OwnFrom B (fun (_ : List α) (V : World) => Below B0 w V) :=
  fun s A B' row hs hg hr => hs.grown hg (by have := hs.size; omega) (fun k e => by have := (hr k e).1; omega)

/-- Where the part of line i (of z bytes) begins, and where it ends. -/
def colF (k fl fc : Int) (i z : Nat) : Int := if k = 0 then (if (i : Int) = fl then fc else 0) else if k = 2 then min fc z else 0
def colT (k tl tc : Int) (i z : Nat) : Int := if k = 0 then (if (i : Int) = tl then tc else z) else if k = 2 then min tc ((z : Int) - 1) + 1 else z
theorem ret_two {a b c d : Int} (h : a = b) (k : c = d) : Ending.returned (.tuple #[.int .i64 a, .int .i64 c]) = Ending.returned (.tuple #[.int .i64 b, .int .i64 d]) := by rw [h, k]

set_option maxHeartbeats 2000000 in
theorem columns_any (k fl fc tl tc : Int) (i z : Nat) (w : World) (hz : z ≤ 140737488355328) (hk : k = 2 → 0 ≤ tc) :
    Calls Try.prog 76 #[.agg #[.int .i64 k, .int .i64 fl, .int .i64 fc, .int .i64 tl, .int .i64 tc], .int .i64 i, .int .i64 z] w fun e w' => e = .returned (.tuple #[.int .i64 (colF k fl fc i z), .int .i64 (colT k tl tc i z)]) ∧ Below w.heap.size w w' := by
  have hb : Below w.heap.size w (w.alloc (.cells #[.int .i64 k, .int .i64 fl, .int .i64 fc, .int .i64 tl, .int .i64 tc] 48)) := (Below.refl _ w).alloc (Nat.le_refl _) _
  have HB := Lib.hid hb
  clear hb
  obtain ⟨F, hF⟩ : ∃ F, F = colF k fl fc i z := ⟨_, rfl⟩
  obtain ⟨T, hT⟩ : ∃ T, T = colT k tl tc i z := ⟨_, rfl⟩
  rw [← hF, ← hT]
  unfold colF at hF
  unfold colT at hT
  by_cases k0 : k = 0
  · subst k0
    rw [if_pos rfl] at hF hT
    by_cases h1 : (i : Int) = fl
    · subst h1
      rw [if_pos rfl] at hF
      by_cases h2 : (i : Int) = tl
      · subst h2
        rw [if_pos rfl] at hT
        subst hF hT
        go_enter Try.func76, Try.ntmps76
        go_wp2
        go_ret2
        exact ⟨rfl, HB.out⟩
      · rw [if_neg h2] at hT
        subst hF hT
        have hne : ((i : Int) == tl) = false := by rw [beq_eq_false_iff_ne]; exact h2
        go_enter Try.func76, Try.ntmps76
        go_wp2
        go_ret2
        exact ⟨rfl, HB.out⟩
    · rw [if_neg h1] at hF
      have hne1 : ((i : Int) == fl) = false := by rw [beq_eq_false_iff_ne]; exact h1
      by_cases h2 : (i : Int) = tl
      · subst h2
        rw [if_pos rfl] at hT
        subst hF hT
        go_enter Try.func76, Try.ntmps76
        go_wp2
        go_ret2
        exact ⟨rfl, HB.out⟩
      · rw [if_neg h2] at hT
        subst hF hT
        have hne : ((i : Int) == tl) = false := by rw [beq_eq_false_iff_ne]; exact h2
        go_enter Try.func76, Try.ntmps76
        go_wp2
        go_ret2
        exact ⟨rfl, HB.out⟩
  · rw [if_neg k0] at hF hT
    by_cases k2 : k = 2
    · subst k2
      rw [if_pos rfl] at hF hT
      have ht := hk rfl
      have hw1 : IntKind.i64.wrap ((z : Int) - 1) = (z : Int) - 1 := by rw [IntKind.wrap_i64]; omega
      have hw2 : IntKind.i64.wrap (min tc ((z : Int) - 1) + 1) = min tc ((z : Int) - 1) + 1 := by rw [IntKind.wrap_i64]; omega
      have hm1 : (if (z : Int) < fc then (z : Int) else fc) = F := by rw [hF]; omega
      have hm2 : (if (z : Int) - 1 < tc then (z : Int) - 1 else tc) = T - 1 := by rw [hT]; omega
      have HF := Lib.hid hF
      have HT := Lib.hid hT
      have hw3 : IntKind.i64.wrap (T - 1 + 1) = T := by rw [hT, IntKind.wrap_i64]; omega
      clear hF hT
      go_enter Try.func76, Try.ntmps76
      go_wp2
      all_goals go_ret2
      all_goals have hF := HF.out
      all_goals have hT := HT.out
      all_goals exact ⟨ret_two (by omega) (by omega), HB.out⟩
    · rw [if_neg k2] at hF hT
      subst hF hT
      go_enter Try.func76, Try.ntmps76
      go_wp2
      go_ret2
      exact ⟨rfl, HB.out⟩

theorem ins_bound {ls : List ByteArray} {l c : Int} (h0 : 0 ≤ l) (h1 : l < ls.length) (h : ins ls l c = true) : 0 ≤ c ∧ c ≤ (lineAt ls l.toNat).size := by
  unfold ins at h
  simp only [Bool.and_eq_true, decide_eq_true_eq] at h
  obtain ⟨h2, h3⟩ := h
  have e : clL ls l = l.toNat := by omega
  unfold clC at h3
  rw [e] at h3
  unfold top at h3
  rw [if_pos rfl] at h3
  have := cl_lt (n := (lineAt ls l.toNat).size + 1) c (by omega)
  omega

/-- The part of a line that belongs to a range. -/
def part (k fl fc tl tc : Int) (x : Nat × ByteArray) : ByteArray := x.2.extract (colF k fl fc x.1 x.2.size).toNat (colT k tl tc x.1 x.2.size).toNat
/-- The text of a range. -/
def txt (ls : List ByteArray) (k fl fc tl tc : Int) : List ByteArray := (enr ls fl.toNat (tl - fl + 1).toNat).map (part k fl fc tl tc)
theorem txt_length (ls : List ByteArray) (k fl fc tl tc : Int) : (txt ls k fl fc tl tc).length = (tl - fl + 1).toNat := by unfold txt; rw [List.length_map, enr_length]

theorem vld_lines {ls : List ByteArray} {k fl fc tl tc : Int} (h : vld ls k fl fc tl tc = true) : 0 ≤ fl ∧ fl ≤ tl ∧ tl < ls.length ∧ (k = 2 → 0 ≤ tc) := by
  unfold vld at h
  simp only [Bool.and_eq_true, decide_eq_true_eq] at h
  obtain ⟨h1, h2⟩ := h
  refine ⟨h1.1, h1.2.1, h1.2.2, fun k2 => ?_⟩
  subst k2
  rw [if_neg (by decide), if_neg (by decide), if_pos rfl] at h2
  simp only [decide_eq_true_eq] at h2
  omega
theorem vld_cols {ls : List ByteArray} {k fl fc tl tc : Int} (h : vld ls k fl fc tl tc = true) (i : Nat) (h1 : fl ≤ i) (h2 : (i : Int) ≤ tl) :
    0 ≤ colF k fl fc i (lineAt ls i).size ∧ colF k fl fc i (lineAt ls i).size ≤ colT k tl tc i (lineAt ls i).size ∧ colT k tl tc i (lineAt ls i).size ≤ (lineAt ls i).size := by
  have hl := vld_lines h
  unfold vld at h
  simp only [Bool.and_eq_true, decide_eq_true_eq] at h
  obtain ⟨_, h3⟩ := h
  unfold colF colT
  by_cases k0 : k = 0
  · rw [if_pos k0] at h3
    rw [if_pos k0, if_pos k0]
    simp only [Bool.and_eq_true, Bool.not_eq_true'] at h3
    obtain ⟨i1, i2, i3⟩ := h3
    have b1 := ins_bound hl.1 (by omega) i1
    have b2 := ins_bound (by omega) hl.2.2.1 i2
    unfold lt at i3
    rw [decide_eq_false_iff_not] at i3
    by_cases e1 : (i : Int) = fl
    · rw [if_pos e1]
      subst e1
      rw [Int.toNat_natCast] at b1
      by_cases e2 : (i : Int) = tl
      · rw [if_pos e2]
        subst e2
        rw [Int.toNat_natCast] at b2
        omega
      · rw [if_neg e2]
        omega
    · rw [if_neg e1]
      by_cases e2 : (i : Int) = tl
      · rw [if_pos e2]
        subst e2
        rw [Int.toNat_natCast] at b2
        omega
      · rw [if_neg e2]
        omega
  · rw [if_neg k0, if_neg k0]
    rw [if_neg k0] at h3
    by_cases k1 : k = 1
    · subst k1
      rw [if_neg (by decide), if_neg (by decide)]
      omega
    · rw [if_neg k1] at h3
      by_cases k2 : k = 2
      · rw [if_pos k2] at h3
        rw [if_pos k2, if_pos k2]
        simp only [decide_eq_true_eq] at h3
        omega
      · rw [if_neg k2] at h3
        cases h3

theorem text_no (a : Option Addr) (n c' : Nat) (ls : List ByteArray) (k fl fc tl tc : Int) (w : World) (h : Ss w a n c' ls) (hs : ∀ s ∈ ls, s.size ≤ 140737488355328) (hv : vld ls k fl fc tl tc = false) :
    Calls Try.prog 65 #[.slice a n c', .agg #[.int .i64 k, .int .i64 fl, .int .i64 fc, .int .i64 tl, .int .i64 tc]] w fun e w' => e = .returned (.slice none 0 0) ∧ Below w.heap.size w w' := by
  obtain ⟨X, hX⟩ : ∃ X, X = w.alloc (.cells #[.int .i64 k, .int .i64 fl, .int .i64 fc, .int .i64 tl, .int .i64 tc] 48) := ⟨_, rfl⟩
  have hb0 : Below w.heap.size w X := by rw [hX]; exact (Below.refl _ w).alloc (Nat.le_refl _) _
  have hva := valid_any a n c' ls k fl fc tl tc X (SrcV.below h hb0) hs
  rw [hv] at hva
  have HX := Lib.hid hX
  have HB := Lib.hid hb0
  clear h hX hb0 hs hv
  go_enter Try.func65, Try.ntmps65
  go_wp2_with fail
  rw [← HX.out]
  refine hva.mono ?_
  rintro e w1 ⟨rfl, hb1⟩
  have hb := HB.out.trans (hb1.mono HB.out.size)
  clear hva hb1
  go_wp2
  go_ret
  exact ⟨rfl, hb⟩

/-- What has been gathered. -/
def Got (M D : Nat) (xs : List Value) (V : World) : Prop :=
  ∃ b cc, V.heap[M]? = some (.cells #[.slice b xs.length cc] 22 (0, 0)) ∧ V.ownsRow D ES 1 (.slice b xs.length cc) xs.length xs
theorem own_row_cells {w : World} {base : Nat} {e : TypeId} {size : Nat} {v : Value} {n : Nat} {xs : List Value} (h : w.ownsRow base e size v n xs) (g : Nat) (hg : v.ownBlock = some g) : ∃ cs, w.heap[g]? = some (.cells cs e (0, 0)) := by
  rcases h.2 with ⟨rfl, _⟩ | ⟨g', cap, cur, rfl, _, hh, _⟩
  · cases hg
  · simp only [Value.ownBlock, Option.some.injEq] at hg
    subst hg
    exact ⟨cur, hh⟩
theorem got_own {α : Type} {B M D : Nat} (hM : M < B) (G : List α → List Value) : OwnFrom B (fun pre (V : World) => Got M D (G pre) V) := by
  rintro s A A' row ⟨b, cc, h1, h2⟩ hg hr
  refine ⟨b, cc, (hg.block _ (Array.getElem?_eq_some_iff.1 h1).1 (fun e => by have := (hr _ e.symm).1; omega)).trans h1, h2.kept hg ?_⟩
  cases hb : (Value.slice b (G s).length cc).ownBlock with
  | none => exact .inl rfl
  | some g =>
    refine .inr fun e => ?_
    obtain ⟨cs, hcs⟩ := own_row_cells h2 g hb
    obtain ⟨_, o, ho, hoc⟩ := hr g e.symm
    rw [hcs] at ho
    cases ho
    cases hoc

set_option maxHeartbeats 4000000 in
theorem text_ok (a : Option Addr) (n c' : Nat) (ls : List ByteArray) (k fl fc tl tc : Int) (w : World) (h : Ss w a n c' ls) (hs : ∀ s ∈ ls, s.size ≤ 140737488355328) (hv : vld ls k fl fc tl tc = true) (hn : n ≤ 1000000) :
    Calls Try.prog 65 #[.slice a n c', .agg #[.int .i64 k, .int .i64 fl, .int .i64 fc, .int .i64 tl, .int .i64 tc]] w fun e w' =>
      ∃ b cc, e = .returned (.slice b (txt ls k fl fc tl tc).length cc) ∧ Ss w' b (txt ls k fl fc tl tc).length cc (txt ls k fl fc tl tc) ∧ Below w.heap.size w w' ∧ ∀ j, blk (.slice b (txt ls k fl fc tl tc).length cc) = some j → w.heap.size ≤ j := by
  obtain ⟨i0, hi0, hz0, hz1', hz2'⟩ := info_parts infoS
  have hlen := h.length
  have hvl := vld_lines hv
  obtain ⟨X, hX⟩ : ∃ X, X = w.alloc (.cells #[.int .i64 k, .int .i64 fl, .int .i64 fc, .int .i64 tl, .int .i64 tc] 48) := ⟨_, rfl⟩
  have hb0 : Below w.heap.size w X := by rw [hX]; exact (Below.refl _ w).alloc (Nat.le_refl _) _
  have hXz : X.heap.size = w.heap.size + 1 := by rw [hX]; simp
  have rX : X.heap[w.heap.size]? = some (.cells #[.int .i64 k, .int .i64 fl, .int .i64 fc, .int .i64 tl, .int .i64 tc] 48 (0, 0)) := by rw [hX]; exact World.alloc_heap_new w _
  have hva := valid_any a n c' ls k fl fc tl tc X (SrcV.below h hb0) hs
  rw [hv] at hva
  have HX := Lib.hid hX
  have HB := Lib.hid hb0
  have HH := Lib.hid h
  have HR := Lib.hid rX
  have HV := Lib.hid hv
  have hmx : Try.prog.follows .mixedOrders = true := by kernel_rfl
  clear h hX hb0 rX hv
  refine (callsIn_wide (n := 9)).1 ?_
  refine callsIn_of_wp_marks Try.func65 rfl trivial ?_ rfl
  simp only [Try.ntmps65, List.size_toArray, List.length_cons, List.length_nil, Nat.reduceAdd, Nat.reduceSub, Array.replicate_succ, Array.replicate_zero, List.push_toArray, List.append_toArray, List.nil_append, List.cons_append]
  refine wpIn_mono (Q := noPanic _) ?_ (noPanic_out _)
  gi_wp2_with fail
  rw [← HX.out]
  refine ⟨trivial, ?_⟩
  refine (callsIn_wide.2 hva).mono ?_
  rintro e w1 ⟨rfl, hb1⟩
  clear hva
  have hz1 := hb1.size
  have r1 := (hb1.block _ (by omega)).trans HR.out
  have p1 : w1.cell? ⟨w.heap.size, 1, none⟩ = some (.int .i64 fl) := (cell_of_row w1 _ 1 _ _ _ r1).trans (by simp)
  have p3 : w1.cell? ⟨w.heap.size, 3, none⟩ = some (.int .i64 tl) := (cell_of_row w1 _ 3 _ _ _ r1).trans (by simp)
  have hb01 := HB.out.trans (hb1.mono HB.out.size)
  have HB1 := Lib.hid hb01
  have HR1 := Lib.hid r1
  clear hb1 hb01 r1
  have p1' : ∀ O, (w1.alloc O).cell? ⟨w.heap.size, 1, none⟩ = some (.int .i64 fl) := fun O => cell_later ((Below.refl _ w1).alloc (Nat.le_refl _) O) p1
  have p3' : ∀ O, (w1.alloc O).cell? ⟨w.heap.size, 3, none⟩ = some (.int .i64 tl) := fun O => cell_later ((Below.refl _ w1).alloc (Nat.le_refl _) O) p3
  clear p1 p3
  gi_wp2_with (refine ⟨trivial, ?_⟩; gi_at_call 75; refine (callsIn_wide.2 (rows_new _ _ _ _ _ _)).mono ?_; rintro e w' ⟨rfl, rfl⟩)
  refine name_world ?_
  intro Wi hWi
  obtain ⟨f, hf⟩ : ∃ f : Nat, (f : Int) = fl := ⟨fl.toNat, by omega⟩
  obtain ⟨m, hm⟩ : ∃ m : Nat, (m : Int) = tl - fl + 1 := ⟨(tl - fl + 1).toNat, by omega⟩
  have htl : tl = (f : Int) + m - 1 := by omega
  have hfm : f + m ≤ n := by omega
  obtain ⟨M, hM⟩ : ∃ M, M = w1.heap.size := ⟨_, rfl⟩
  rw [htl, ← hf] at hWi
  obtain ⟨hsi, e0, e1, e2, e3, bi⟩ := four_rows w1 (.cells #[.slice none 0 0] 22) (.cells #[.slice a n c'] 22) (.cells #[.int .i64 f] 3) (.cells #[.int .i64 ((f : Int) + m - 1)] 3)
  rw [← hWi, ← hM] at hsi e0 e1 e2 e3
  rw [← hWi] at bi
  have c1 : Wi.cell? ⟨M + 1, 0, none⟩ = some (.slice a n c') := (cell_of_row Wi _ 0 _ _ _ e1).trans (by simp)
  have c2 : Wi.cell? ⟨M + 2, 0, none⟩ = some (.int .i64 f) := (cell_of_row Wi _ 0 _ _ _ e2).trans (by simp)
  have c3 : Wi.cell? ⟨M + 3, 0, none⟩ = some (.int .i64 ((f : Int) + m - 1)) := (cell_of_row Wi _ 0 _ _ _ e3).trans (by simp)
  have hbwi : Below w.heap.size w Wi := HB1.out.trans (bi.mono HB1.out.size)
  have hsrc := SrcV.below HH.out hbwi
  have hMw : w.heap.size < M := by omega
  have hblk : ∀ b o, a = some ⟨b, o, none⟩ → 0 < n → b < w.heap.size := fun b o e h0 => by
    subst e
    exact SrcV.blkLt HH.out (by omega) b rfl
  have iter := rows_iter Wi (M + 1) (M + 2) (M + 3) f m hsrc hfm c1 c2 c3 (fun k => k = M) (by omega) (by omega) (by omega) (fun h0 b o e k => by have := hblk b o e h0; have k' : b = M := k; omega)
  have hRi := (bi.block _ (by omega)).trans HR1.out
  have HT := Lib.hid (show txt ls k fl fc tl tc = (enr ls f m).map (part k fl fc tl tc) by unfold txt; rw [show fl.toNat = f by omega, show (tl - fl + 1).toNat = m by omega])
  have HBW := Lib.hid hbwi
  have HRI := Lib.hid hRi
  have HWI := Lib.hid hWi
  have HFM := Lib.hid (And.intro hf (And.intro htl hfm))
  have hMi : M < Wi.heap.size := by omega
  have hMw1 : M = w1.heap.size := hM
  rw [← hM]
  clear p1' p3' hsrc c1 c2 c3 e1 e2 e3 hRi hbwi hWi HX HR HR1 HB HB1 hXz hf hm htl hMw1 hM hvl hlen hsi
  refine rangeFunc_iter (by omega) (gf := 79) (lb := #[.pointer (some ⟨M + 2, 0, none⟩), .pointer (some ⟨M + 3, 0, none⟩), .pointer (some ⟨M + 1, 0, none⟩)]) rfl (enters_of Try.func79 (by kernel_rfl) rfl) iter
    (fun h1 h2 => h1.trans h2) (frK (Nat.le_refl _)) (Below.refl _ _) (fun _ => rfl)
    (fun pre V => Fr (fun k => k = M ∨ Wi.heap.size ≤ k) Wi V ∧ Got M (Wi.heap.size + 2) (pre.map fun x => Value.string (part k fl fc tl tc x)) V)
    (fun c pre V => False) ?hI ?hIx ⟨Fr.refl _ _, none, 0, e0, World.ownsRow_nil _ _ _ _⟩ ?round ?done ?stop
  case hI =>
    refine OwnFrom.and ?_ (got_own (by omega) _)
    exact fun s A B row hs hg hr => Fr.grown hs hg (fun k e _ => .inr (hr k e).1)
  case hIx => exact fun c s A B row hs hg hr => hs
  case stop => exact fun _ _ _ _ _ _ _ h _ => h.elim
  case round =>
    rintro l' pre x V0 ⟨rest, hpr⟩ hsz0 hi0
    obtain ⟨hk, rfl⟩ := enr_at hpr
    obtain ⟨j, hj⟩ : ∃ j, j = f + pre.length := ⟨_, rfl⟩
    rw [← hj]
    obtain ⟨st, hst⟩ : ∃ st, st = lineAt ls j := ⟨_, rfl⟩
    rw [← hst]
    have HJ := Lib.hid hj
    have HST := Lib.hid hst
    clear hj hst hpr
    dsimp only [enc2]
    gi_wp2
    refine ⟨Keep.refl _ _ _, Fr.refl _ _, hi0, ?_⟩
    rintro V - - - hszV ⟨hF, b, cc, g1, hrow⟩
    clear hi0
    have hRV := (hF.block w.heap.size (by omega) (by omega)).trans HRI.out
    have q0 : V.cell? ⟨w.heap.size, 0, none⟩ = some (.int .i64 k) := (cell_of_row V _ 0 _ _ _ hRV).trans (by simp)
    have q1 : V.cell? ⟨w.heap.size, 1, none⟩ = some (.int .i64 fl) := (cell_of_row V _ 1 _ _ _ hRV).trans (by simp)
    have q2 : V.cell? ⟨w.heap.size, 2, none⟩ = some (.int .i64 fc) := (cell_of_row V _ 2 _ _ _ hRV).trans (by simp)
    have q3 : V.cell? ⟨w.heap.size, 3, none⟩ = some (.int .i64 tl) := (cell_of_row V _ 3 _ _ _ hRV).trans (by simp)
    have q4 : V.cell? ⟨w.heap.size, 4, none⟩ = some (.int .i64 tc) := (cell_of_row V _ 4 _ _ _ hRV).trans (by simp)
    have hjn : j < ls.length := by have := HJ.out; have := HFM.out; have := HH.out.length; omega
    have hstz : st.size ≤ 140737488355328 := by rw [HST.out, lineAt_get hjn]; exact hs _ (List.getElem_mem hjn)
    have hcol := columns_any k fl fc tl tc j st.size V hstz (vld_lines HV.out).2.2.2
    have hbd := vld_cols HV.out j (by have := HJ.out; have := HFM.out; omega) (by have := HJ.out; have := HFM.out; omega)
    rw [← HST.out] at hbd
    obtain ⟨F, hFF⟩ : ∃ F : Nat, (F : Int) = colF k fl fc j st.size := ⟨(colF k fl fc j st.size).toNat, by omega⟩
    obtain ⟨T, hTT⟩ : ∃ T : Nat, (T : Int) = colT k tl tc j st.size := ⟨(colT k tl tc j st.size).toNat, by omega⟩
    have hpt : part k fl fc tl tc (j, st) = st.extract F T := by unfold part; dsimp only; rw [← hFF, ← hTT]; rfl
    rw [← hFF, ← hTT] at hbd hcol
    obtain ⟨_, b1, b2⟩ := hbd
    have b3 : F ≤ T := by omega
    have b4 : T ≤ st.size := by omega
    have HP := Lib.hid hpt
    have HFr := Lib.hid (And.intro hF (And.intro g1 hrow))
    have hVM := hF.size
    clear hpt hFF hTT b1 b2 hRV hjn hF g1 hrow
    gi_wp2_with fail
    refine ⟨trivial, ?_⟩
    refine (CallsIn.inRound l' (callsIn_wide.2 hcol)).mono ?_
    rintro e V2 ⟨rfl, hb2⟩
    obtain ⟨hF, g1, hrow⟩ := HFr.out
    have hz2 := hb2.size
    have g2 := (hb2.block _ (Array.getElem?_eq_some_iff.1 g1).1).trans g1
    have y2 : V2.cell? ⟨M, 0, none⟩ = some (.slice b (pre.map fun x => Value.string (part k fl fc tl tc x)).length cc) := (cell_of_row V2 _ 0 _ _ _ g2).trans (by simp)
    have hrow2 := ownsRow_fr hrow (Fr.ofBelow hb2 (fun _ => False)) (by simp)
    have hF2 := hF.trans (Fr.ofBelow hb2 _)
    have HG2 := Lib.hid (And.intro hF2 (And.intro g2 (And.intro hrow2 hb2)))
    obtain ⟨L, hL⟩ : ∃ L, L = pre.map fun x => Value.string (part k fl fc tl tc x) := ⟨_, rfl⟩
    rw [← hL] at y2
    have HL := Lib.hid hL
    clear hcol hF g1 hrow hb2 q0 q1 q2 q3 q4 hF2 g2 hrow2 hL
    gi_wp2
    obtain ⟨hF2, g2, hrow2, hb2⟩ := HG2.out
    rw [← HL.out] at g2 hrow2
    have hLl : L.length = pre.length := by rw [HL.out, List.length_map]
    have hLn : L.length ≤ 1000000 := by have := HFM.out; omega
    obtain ⟨V3, hV3⟩ : ∃ V3, V3 = (V2.alloc (.cells #[.string (st.extract F T)] ES)).drew := ⟨_, rfl⟩
    have hf3 : Fr (fun _ => False) V2 V3 := by rw [hV3]; exact ((Fr.refl _ V2).alloc _).drew
    have hrow3 := ownsRow_fr hrow2 hf3 (by simp)
    have hsrc3 : SrcV V3 1 (.slice (some ⟨V2.heap.size, 0, none⟩) 1 1) 1 [.string (st.extract F T)] := by rw [hV3]; exact (SrcV.lit V2 #[.string (st.extract F T)] ES 1 rfl (by simp [Value.oneCell']) (by simp [maxLen])).drew
    have g3 := (hf3.block _ (Array.getElem?_eq_some_iff.1 g2).1 (by simp)).trans g2
    have hz3 := hf3.size
    rw [hLl] at hrow3 g3
    have hob : ∀ g, (Value.slice b pre.length cc).ownBlock = some g → Wi.heap.size + 2 ≤ g := fun g hg => (hrow3.lt g hg).1
    have hst4 : ∀ V4, V3.grownBy V4 (Value.slice b pre.length cc).ownBlock → V4.heap[M]? = some (.cells #[.slice b pre.length cc] 22 (0, 0)) := fun V4 hg4 =>
      (hg4.block M (by have := (Array.getElem?_eq_some_iff.1 g3).1; exact this) (by intro e; have := hob M e.symm; omega)).trans g3
    have HG3 := Lib.hid (And.intro ((Fr.ofBelow hb2 (fun _ => False)).trans hf3) (And.intro hst4 hob))
    have HR3 := Lib.hid hrow3
    have HS3 := Lib.hid hsrc3
    have HV3 := Lib.hid hV3
    have HLL := Lib.hid hLl
    have hpl : pre.length ≤ 1000000 := by omega
    have y3 : (V2.alloc (.cells #[.string (st.extract F T)] ES)).cell? ⟨M, 0, none⟩ = some (.slice b pre.length cc) := by rw [← hLl]; exact cell_later ((Below.refl _ V2).alloc (Nat.le_refl _) _) y2
    rw [hLl] at y2
    clear hF2 g2 hrow2 hb2 hf3 hrow3 hsrc3 g3 hV3 hst4 hob hLl hLn
    refine wpIn_region_round (fun _ => True) hmx (by kernel_rfl) (by rintro ⟨_, _, h⟩; exact h) ?_
    refine wpAnyH_take (i := 1) (v := .string st) rfl (by kernel_rfl) (by kernel_rfl) (by kernel_rfl) (fun _ _ _ h => h) (Or.inl ⟨by rfl, fun w' _ => by go_simp⟩) trivial ?_
    simp only [Act.put]
    refine wpAnyH_take (i := 2) (v := .int .i64 F) rfl (by kernel_rfl) (by kernel_rfl) (by kernel_rfl) (fun _ _ _ h => h) (Or.inl ⟨by rfl, fun w' _ => by go_simp⟩) trivial ?_
    simp only [Act.put]
    refine wpAnyH_take (i := 3) (v := .int .i64 T) rfl (by kernel_rfl) (by kernel_rfl) (by kernel_rfl) (fun _ _ _ h => h) (Or.inl ⟨by rfl, fun w' _ => by go_simp⟩) trivial ?_
    simp only [Act.put]
    refine wpAnyH_take (i := 4) (v := .string (st.extract F T)) rfl (by kernel_rfl) (by kernel_rfl) (by kernel_rfl) (fun _ _ _ h => h) (Or.inl ⟨by rfl, fun w' _ => by go_simp⟩) trivial ?_
    simp only [Act.put]
    refine wpAnyH_ready (rs := [0, 5]) (by kernel_rfl) (by simp) ?_
    refine AllReadyH.cons rfl (fun K hK => ?fa) (AllReadyH.cons rfl (fun K hK => ?fb) AllReadyH.nil)
    case' fa =>
      go_simp
      refine hK.out _ _ trivial (fun _ => ?_)
      clear hK K
      try simp only [Act.put]
      refine wpAnyH_ready (rs := [5]) (by kernel_rfl) (by simp) ?_
      refine AllReadyH.cons rfl (fun K hK => ?_) AllReadyH.nil
      go_simp
      refine hK.out _ _ trivial (fun _ => ?_)
      clear hK K
      try simp only [Act.put]
      rw [← HV3.out]
    case' fb =>
      go_simp
      refine hK.out _ _ trivial (fun _ => ?_)
      clear hK K
      try simp only [Act.put]
      refine wpAnyH_ready (rs := [0]) (by kernel_rfl) (by simp) ?_
      refine AllReadyH.cons rfl (fun K hK => ?_) AllReadyH.nil
      go_simp
      refine hK.out _ _ trivial (fun _ => ?_)
      clear hK K
      try simp only [Act.put]
      rw [← HV3.out]
    all_goals
      refine wpAnyH_ready (rs := [6]) (by kernel_rfl) (by simp) ?_
      refine AllReadyH.cons rfl (fun K hK => ?_) AllReadyH.nil
      refine step_append_srcv rfl (.tmp 32) (.tmp 37) 22 rfl (Wi.heap.size + 2) ES i0 (.string ⟨#[]⟩) 1 16 underS hi0 hz0 hz1' hz2' rfl (by decide) (.slice b pre.length cc) pre.length L (by simp [Act.eval]) HR3.out (.slice (some ⟨V2.heap.size, 0, none⟩) 1 1) 1 [.string (st.extract F T)] (by simp [Act.eval]) HS3.out (by simp only [maxLen]; omega) (by omega) (by omega) ?_
      intro ob oc V4 hown hg hnr
      have g4 := HG3.out.2.1 V4 hg
      have y4 : V4.cell? ⟨M, 0, none⟩ = some (.slice b pre.length cc) := (cell_of_row V4 _ 0 _ _ _ g4).trans (by simp)
      have z4 : V4.frozen? ⟨M, 0, none⟩ = false := frozen_of_row V4 _ 0 _ _ g4
      have HO := Lib.hid (And.intro hown (And.intro hg (And.intro hnr g4)))
      clear hown hg hnr g4
      refine hK.out _ _ trivial (fun _ => ?_)
      clear hK K
      try simp only [Act.put]
      refine wpAnyH_ready (rs := [7]) (by kernel_rfl) (by simp) ?_
      refine AllReadyH.cons rfl (fun K hK => ?_) AllReadyH.nil
      go_simp
      refine hK.out _ _ trivial (fun _ => ?_)
      clear hK K
      try simp only [Act.put]
      refine wpAnyH_done (by kernel_rfl) ?_ _
      gi_wp2
      obtain ⟨hown, hg, hnr, g4⟩ := HO.out
      obtain ⟨f3, _, hob⟩ := HG3.out
      have f4 : Fr (fun k => k = M ∨ (Value.slice b pre.length cc).ownBlock = some k) V V4 := (f3.mono (by simp)).trans (Fr.grown (Fr.refl _ V3) hg (fun k e _ => .inr e))
      have f7 : Fr (fun k => k = M ∨ (Value.slice b pre.length cc).ownBlock = some k) V (V4.setCell ⟨M, 0, none⟩ (.slice ob (pre.length + 1) oc)) := f4.setCell (p := ⟨M, 0, none⟩) (fun _ => .inl rfl) _
      have k7 : Fr (fun k => k = M ∨ Wi.heap.size ≤ k) V (V4.setCell ⟨M, 0, none⟩ (.slice ob (pre.length + 1) oc)) := f7.mono (fun i _ e => e.elim .inl (fun e => .inr (by have := hob i e; omega)))
      have hxs : (pre ++ [(j, st)]).map (fun x => Value.string (part k fl fc tl tc x)) = L ++ [.string (st.extract F T)] := by rw [List.map_append, HL.out, List.map_cons, List.map_nil, HP.out]
      have hll : (L ++ [Value.string (st.extract F T)]).length = pre.length + 1 := by rw [List.length_append, HLL.out]; rfl
      refine ⟨Keep.ofFr f7 (by omega) (fun i e => e.elim (fun e => .inl (by omega)) (fun e => .inr (by have := hob i e; omega))), k7, HFr.out.1.trans k7, ob, oc, ?_, ?_⟩
      · rw [hxs, hll]
        exact (heap_setCell_same V4 M 0 _ _ _ g4).trans (by simp)
      · rw [hxs, hll]
        exact ownsRow_fr hown ((Fr.refl (fun k => k = M) V4).setCell (p := ⟨M, 0, none⟩) (fun _ => rfl) _) (fun i hi e => by have := (hown.lt i hi).1; omega)
  case done =>
    rintro D V hD ⟨hF, b, cc, g1, hrow⟩ hk
    have hll : ((enr ls f m).map fun x => Value.string (part k fl fc tl tc x)).length = m := by rw [List.length_map, enr_length]
    rw [hll] at g1 hrow
    have y1 : V.cell? ⟨M, 0, none⟩ = some (.slice b m cc) := (cell_of_row V _ 0 _ _ _ g1).trans (by simp)
    have HK := Lib.hid hk
    have HF := Lib.hid (And.intro hF hrow)
    clear hF g1 hrow hk
    gi_wp2
    refine ⟨by simp, .inl ⟨_, _, rfl, run_takeDeferred (w := V) HK.out, ?_⟩⟩
    obtain ⟨hF, hrow⟩ := HF.out
    have hbV : Below w.heap.size w V := HBW.out.trans (hF.below (B := w.heap.size) (by have := HBW.out.size; omega) (by intro k hk; have := HBW.out.size; omega))
    have hBD : Below w.heap.size w (V.putObj D (.deferred none)) := hbV.grown (grownBy_putObj' _ D _) hbV.size (fun k e => by cases e; have := HBW.out.size; omega)
    have hrowD : (V.putObj D (.deferred none)).ownsRow (Wi.heap.size + 2) ES 1 (.slice b m cc) m ((enr ls f m).map fun x => Value.string (part k fl fc tl tc x)) :=
      hrow.kept (grownBy_putObj' _ D _) (by
        cases hb : (Value.slice b m cc).ownBlock with
        | none => exact .inl rfl
        | some g =>
          refine .inr fun e => ?_
          obtain ⟨cs, hcs⟩ := own_row_cells hrow g hb
          injection e with e
          subst e
          have hk := HK.out
          rw [hcs] at hk
          cases hk)
    have hxt : (txt ls k fl fc tl tc).map Value.string = (enr ls f m).map fun x => Value.string (part k fl fc tl tc x) := by rw [HT.out, List.map_map]; rfl
    have hlt : (txt ls k fl fc tl tc).length = m := by rw [HT.out, List.length_map, enr_length]
    refine ⟨.slice b m cc, by simp [results, Try.results65, go_sem], b, cc, by rw [hlt], ?_, hBD, ?_⟩
    · rw [hlt]
      unfold Ss
      rw [hxt]
      exact SrcV.ofOwn hrowD (by rw [← hxt]; exact one_cells _)
    · rw [hlt]
      intro i hi
      have : (Value.slice b m cc).ownBlock = some i := hi
      have := (hrowD.lt i this).1
      have := HBW.out.size
      omega

end Go.Proofs.Ytkddnknjjdenhaa.So
