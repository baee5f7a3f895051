/-
  A buffer is just of these lines, as the laws ask it.
-/
import Derived.Test.YtfllgmgipmmpkaaGreatDoorBk
set_option linter.unusedVariables false
set_option linter.unusedSimpArgs false
set_option maxRecDepth 100000
namespace Go.Proofs.YtfllgmgipmmpkaaGreatDoor.Bf
open Go Go.RowKit Go.Proofs.YtfllgmgipmmpkaaGreatDoor.Vk Go.Proofs.YtfllgmgipmmpkaaGreatDoor.Tm Go.Proofs.YtfllgmgipmmpkaaGreatDoor.Tf Go.Proofs.YtfllgmgipmmpkaaGreatDoor.Lm Go.Shelf Go.Proofs.YtfllgmgipmmpkaaGreatDoor.Tb
attribute [local go_sem] Oper.semAt_some

theorem eqf2 (x : Value) (W : World) : Sem.run Tryz.prog (Go.binOp .eql 69 (.func (.func 56) #[] #[x]) .nilFunc) W = .ok (.bool false) W := by kernel_rfl

set_option maxHeartbeats 4000000 in
theorem whole_any {w : World} {base b : Nat} {F : Nat → Prop} {ls : List ByteArray} {edits np used : Nat} (h : Buf w base b F ls edits np used) (hm : MaxOk w) (hu : used ≤ 400000)
    (a : Option Addr) (n c : Nat) (hs : Ss w a n c ls) :
    Calls Tryz.prog 14 #[.pointer (some ⟨b, 0, none⟩), .slice a n c] w fun e w' => e = .returned (.bool true) ∧ Below w.heap.size w w' := by
  obtain ⟨h1, h2, h3, h4, h5, h6⟩ := h.facts
  have hlen := hs.length
  subst hlen
  have hge := jn_len_ge ls
  obtain ⟨w1, hw1⟩ : ∃ w1, w1 = (w.alloc (.cells #[.slice a ls.length c] 22)).alloc (.cells #[.bool false] 4) := ⟨_, rfl⟩
  have hb1 : Below w.heap.size w w1 := by rw [hw1]; exact ((Below.refl _ w).alloc (Nat.le_refl _) _).alloc (by simp) _
  have hs1 : w1.heap.size = w.heap.size + 2 := by rw [hw1]; simp
  have e0 : w1.heap[w.heap.size]? = some (.cells #[.slice a ls.length c] 22 (0, 0)) := by rw [hw1]; simp only [heap_alloc_if, World.size_alloc]; repeat (first | rw [if_pos trivial] | rw [if_pos (by omega)] | rw [if_neg (by omega)])
  have e1 : w1.heap[w.heap.size + 1]? = some (.cells #[.bool false] 4 (0, 0)) := by rw [hw1]; simp only [heap_alloc_if, World.size_alloc]; repeat (first | rw [if_pos trivial] | rw [if_pos (by omega)] | rw [if_neg (by omega)])
  have c0 : w1.cell? ⟨w.heap.size, 0, none⟩ = some (.slice a ls.length c) := (cell_of_row w1 _ 0 _ _ _ e0).trans (by simp)
  have hD : Below w.heap.size w w1.drew := hb1.drew
  have hlines := lines_any (h.below hD) (hm.below hD) hu
  have HH := Lib.hid h
  have HM := Lib.hid hm
  have HS := Lib.hid hs
  have HD := Lib.hid hD
  have H1 := Lib.hid (And.intro hb1 (And.intro e0 (And.intro e1 hs1)))
  have hmx : Tryz.prog.follows .mixedOrders = true := by kernel_rfl
  have hsn : ((ls.length : Int) != (ls.length : Int)) = false := bne_self_eq_false _
  have hjn : (((jn ls).length : Int) != ((jn ls).length : Int)) = false := bne_self_eq_false _
  have hw_1 : IntKind.i64.wrap (2 * (edits : Int)) = 2 * (edits : Int) := by rw [IntKind.wrap_i64]; omega
  have hw_2 : IntKind.i64.wrap (2 * (edits : Int) + 1) = 2 * (edits : Int) + 1 := by rw [IntKind.wrap_i64]; omega
  have hd : decide (2 * (edits : Int) + 1 < (np : Int)) = false := by simp; omega
  clear h hm hs hb1 hD e0 e1 hs1
  refine (callsIn_wide (n := 9)).1 ?_
  refine callsIn_of_wp_marks Tryz.func14 rfl trivial ?_ rfl
  simp only [Tryz.ntmps14, List.size_toArray, List.length_cons, List.length_nil, Nat.reduceAdd, Nat.reduceSub, Array.replicate_succ, Array.replicate_zero, List.push_toArray, List.append_toArray, List.nil_append, List.cons_append]
  refine wpIn_mono (Q := noPanic _) ?_ (noPanic_out _)
  gi_wp2
  rw [← hw1]
  clear hw1
  refine wpIn_wide.2 ?_
  have hS1 : w1.drew.cell? ⟨w.heap.size, 0, none⟩ = some (.slice a ls.length c) := c0
  refine wp_region_held (S := fun w' => w'.cell? ⟨w.heap.size, 0, none⟩ = some (.slice a ls.length c)) hmx ?_
  refine wpAnyH_take (i := 0) (v := .pointer (some ⟨b, 0, none⟩)) rfl (by kernel_rfl) (by kernel_rfl) (by kernel_rfl) (fun _ _ _ h => h) (Or.inl ⟨by rfl, fun w' hw => by go_simp⟩) hS1 ?_
  try simp only [Act.put]
  refine wpAnyH_take (i := 2) (v := .slice a ls.length c) rfl (by kernel_rfl) (by kernel_rfl) (by kernel_rfl) (fun _ _ _ h => h) (Or.inl ⟨by rfl, fun w' hw => by go_simp⟩) hS1 ?_
  try simp only [Act.put]
  refine wpAnyH_ready (rs := [1]) (by kernel_rfl) (by simp) ?_
  refine AllReadyH.cons rfl (fun K hK => ?_) AllReadyH.nil
  go_simp
  refine hlines.mono ?_
  rintro e w3 ⟨c3, rfl, hs3, hb3⟩
  have hS3 : w3.cell? ⟨w.heap.size, 0, none⟩ = some (.slice a ls.length c) := (hb3.cell (World.block_lt_of_cell? w1 _ c0)).trans c0
  have hb13 : Below w1.heap.size w1 w3 := ((Below.refl _ w1).drew).trans hb3
  have hsame := same_any _ _ _ _ _ _ w3 hs3 (SrcV.below HS.out (H1.out.1.trans (hb13.mono H1.out.1.size))) (by omega)
  have HB3 := Lib.hid hb13
  clear hs3 hb3 hb13 hlines
  refine hK.out _ _ hS3 (fun _ => ?_)
  clear hK K
  try simp only [Act.put]
  refine wpAnyH_ready (rs := [3]) (by kernel_rfl) (by simp) ?_
  refine AllReadyH.cons rfl (fun K hK => ?_) AllReadyH.nil
  go_simp
  refine hsame.mono ?_
  rintro e w4 ⟨rfl, hb4⟩
  have hS4 : w4.cell? ⟨w.heap.size, 0, none⟩ = some (.slice a ls.length c) := (hb4.cell (World.block_lt_of_cell? w3 _ hS3)).trans hS3
  have hb14 : Below w1.heap.size w1 w4 := HB3.out.trans (hb4.mono HB3.out.size)
  have hb04 : Below w.heap.size w w4 := H1.out.1.trans (hb14.mono H1.out.1.size)
  have hcnt := count_any (HH.out.below hb04)
  have hbyt := bytes_any (HH.out.below hb04)
  have hpcs := pieces_any (HH.out.below hb04)
  have hedt := edits_any (HH.out.below hb04)
  have hsz := size5_any a ls.length c ls w4 (SrcV.below HS.out hb04) (by omega) (by omega)
  have HB4 := Lib.hid (And.intro hb14 hb04)
  clear hb4 hb14 hb04 hsame
  refine hK.out _ _ hS4 (fun _ => ?_)
  clear hK K
  try simp only [Act.put]
  refine wpAnyH_take (i := 4) (v := .bool false) rfl (by kernel_rfl) (by kernel_rfl) (by kernel_rfl) (fun _ _ _ h => h) (Or.inl ⟨by rfl, fun w' hw => by go_simp⟩) hS4 ?_
  try simp only [Act.put]
  refine wpAnyH_take (i := 5) (v := .bool false) rfl (by kernel_rfl) (by kernel_rfl) (by kernel_rfl) (fun _ _ _ h => h) (Or.inl ⟨by rfl, fun w' hw => by go_simp⟩) hS4 ?_
  try simp only [Act.put]
  refine wpAnyH_take (i := 6) (v := .pointer (some ⟨b, 0, none⟩)) rfl (by kernel_rfl) (by kernel_rfl) (by kernel_rfl) (fun _ _ _ h => h) (Or.inl ⟨by rfl, fun w' hw => by go_simp⟩) hS4 ?_
  try simp only [Act.put]
  refine wpAnyH_take (i := 8) (v := .slice a ls.length c) rfl (by kernel_rfl) (by kernel_rfl) (by kernel_rfl) (fun _ _ _ h => h) (Or.inl ⟨by rfl, fun w' hw => by go_simp⟩) hS4 ?_
  try simp only [Act.put]
  refine wpAnyH_take (i := 9) (v := .int .i64 ls.length) rfl (by kernel_rfl) (by kernel_rfl) (by kernel_rfl) (fun _ _ _ h => h) (Or.inl ⟨by rfl, fun w' hw => by go_simp⟩) hS4 ?_
  try simp only [Act.put]
  refine wpAnyH_ready (rs := [7]) (by kernel_rfl) (by simp) ?_
  refine AllReadyH.cons rfl (fun K hK => ?_) AllReadyH.nil
  go_simp
  refine hcnt.mono ?_
  rintro e w5 ⟨rfl, rfl⟩
  refine hK.out _ _ hS4 (fun _ => ?_)
  clear hK K
  try simp only [Act.put]
  refine wpAnyH_take (i := 10) (v := .bool false) rfl (by kernel_rfl) (by kernel_rfl) (by kernel_rfl) (fun _ _ _ h => h) (Or.inl ⟨by rfl, fun w' hw => by go_simp⟩) hS4 ?_
  try simp only [Act.put]
  refine wpAnyH_take (i := 11) (v := .bool false) rfl (by kernel_rfl) (by kernel_rfl) (by kernel_rfl) (fun _ _ _ h => h) (Or.inl ⟨by rfl, fun w' hw => by go_simp⟩) hS4 ?_
  try simp only [Act.put]
  refine wpAnyH_take (i := 12) (v := .bool false) rfl (by kernel_rfl) (by kernel_rfl) (by kernel_rfl) (fun _ _ _ h => h) (Or.inl ⟨by rfl, fun w' hw => by go_simp⟩) hS4 ?_
  try simp only [Act.put]
  refine wpAnyH_take (i := 13) (v := .pointer (some ⟨b, 0, none⟩)) rfl (by kernel_rfl) (by kernel_rfl) (by kernel_rfl) (fun _ _ _ h => h) (Or.inl ⟨by rfl, fun w' hw => by go_simp⟩) hS4 ?_
  try simp only [Act.put]
  refine wpAnyH_take (i := 15) (v := .slice a ls.length c) rfl (by kernel_rfl) (by kernel_rfl) (by kernel_rfl) (fun _ _ _ h => h) (Or.inl ⟨by rfl, fun w' hw => by go_simp⟩) hS4 ?_
  try simp only [Act.put]
  refine wpAnyH_ready (rs := [14]) (by kernel_rfl) (by simp) ?_
  refine AllReadyH.cons rfl (fun K hK => ?_) AllReadyH.nil
  go_simp
  refine hbyt.mono ?_
  rintro e w5 ⟨rfl, rfl⟩
  refine hK.out _ _ hS4 (fun _ => ?_)
  clear hK K
  try simp only [Act.put]
  refine wpAnyH_ready (rs := [16]) (by kernel_rfl) (by simp) ?_
  refine AllReadyH.cons rfl (fun K hK => ?_) AllReadyH.nil
  go_simp
  refine hsz.mono ?_
  rintro e w5 ⟨rfl, rfl⟩
  refine hK.out _ _ hS4 (fun _ => ?_)
  clear hK K
  try simp only [Act.put]
  refine wpAnyH_take (i := 17) (v := .bool false) rfl (by kernel_rfl) (by kernel_rfl) (by kernel_rfl) (fun _ _ _ h => h) (Or.inl ⟨by rfl, fun w' hw => by go_simp⟩) hS4 ?_
  try simp only [Act.put]
  refine wpAnyH_take (i := 18) (v := .bool false) rfl (by kernel_rfl) (by kernel_rfl) (by kernel_rfl) (fun _ _ _ h => h) (Or.inl ⟨by rfl, fun w' hw => by go_simp⟩) hS4 ?_
  try simp only [Act.put]
  refine wpAnyH_take (i := 19) (v := .bool false) rfl (by kernel_rfl) (by kernel_rfl) (by kernel_rfl) (fun _ _ _ h => h) (Or.inl ⟨by rfl, fun w' hw => by go_simp⟩) hS4 ?_
  try simp only [Act.put]
  refine wpAnyH_take (i := 20) (v := .pointer (some ⟨b, 0, none⟩)) rfl (by kernel_rfl) (by kernel_rfl) (by kernel_rfl) (fun _ _ _ h => h) (Or.inl ⟨by rfl, fun w' hw => by go_simp⟩) hS4 ?_
  try simp only [Act.put]
  refine wpAnyH_take (i := 22) (v := .pointer (some ⟨b, 0, none⟩)) rfl (by kernel_rfl) (by kernel_rfl) (by kernel_rfl) (fun _ _ _ h => h) (Or.inl ⟨by rfl, fun w' hw => by go_simp⟩) hS4 ?_
  try simp only [Act.put]
  refine wpAnyH_ready (rs := [21]) (by kernel_rfl) (by simp) ?_
  refine AllReadyH.cons rfl (fun K hK => ?_) AllReadyH.nil
  go_simp
  refine hpcs.mono ?_
  rintro e w5 ⟨rfl, rfl⟩
  refine hK.out _ _ hS4 (fun _ => ?_)
  clear hK K
  try simp only [Act.put]
  refine wpAnyH_ready (rs := [23]) (by kernel_rfl) (by simp) ?_
  refine AllReadyH.cons rfl (fun K hK => ?_) AllReadyH.nil
  go_simp
  refine hedt.mono ?_
  rintro e w5 ⟨rfl, rfl⟩
  refine hK.out _ _ hS4 (fun _ => ?_)
  clear hK K
  try simp only [Act.put]
  refine wpAnyH_take (i := 24) (v := .int .i64 (2 * (edits : Int))) rfl (by kernel_rfl) (by kernel_rfl) (by kernel_rfl) (fun _ _ _ h => h) (Or.inl ⟨by rfl, fun w' hw => by go_simp⟩) hS4 ?_
  try simp only [Act.put]
  refine wpAnyH_take (i := 25) (v := .int .i64 (2 * (edits : Int) + 1)) rfl (by kernel_rfl) (by kernel_rfl) (by kernel_rfl) (fun _ _ _ h => h) (Or.inl ⟨by rfl, fun w' hw => by go_simp⟩) hS4 ?_
  try simp only [Act.put]
  refine wpAnyH_take (i := 26) (v := .bool false) rfl (by kernel_rfl) (by kernel_rfl) (by kernel_rfl) (fun _ _ _ h => h) (Or.inl ⟨by rfl, fun w' hw => by go_simp⟩) hS4 ?_
  try simp only [Act.put]
  refine wpAnyH_take (i := 27) (v := .bool false) rfl (by kernel_rfl) (by kernel_rfl) (by kernel_rfl) (fun _ _ _ h => h) (Or.inl ⟨by rfl, fun w' hw => by go_simp⟩) hS4 ?_
  try simp only [Act.put]
  refine wpAnyH_done (by kernel_rfl) ?_ _
  clear hcnt hbyt hpcs hedt hsz
  gi_wp2
  have he := eqf2
  gi_wp2_with (refine ⟨trivial, ?_⟩; gi_at_call 33; refine (callsIn_wide.2 (all_new _ _)).mono ?_; rintro e w' ⟨rfl, rfl⟩)
  refine name_world ?_
  intro Wi hWi
  have hs1 := H1.out.2.2.2
  have hz4 := HB4.out.1.size
  have si : Wi.heap.size = w4.heap.size + 2 := by rw [hWi]; simp
  have bi : Below w4.heap.size w4 Wi := by
    rw [hWi]
    exact ((Below.refl _ w4).alloc (Nat.le_refl _) _).alloc (by simp only [World.size_alloc]; omega) _
  have cx : Wi.cell? ⟨w4.heap.size, 0, none⟩ = some (.pointer (some ⟨b, 0, none⟩)) := (cell_of_row Wi _ 0 _ _ _ (by rw [hWi]; simp only [heap_alloc_if, World.size_alloc]; repeat (first | rw [if_pos trivial] | rw [if_pos (by omega)] | rw [if_neg (by omega)]))).trans (by simp)
  have en0 : Wi.heap[w4.heap.size + 1]? = some (.cells #[.int .i64 ((([] : List (Nat × ByteArray)).length : Nat) : Int)] 3 (0, 0)) := by rw [hWi]; simp only [heap_alloc_if, World.size_alloc]; repeat (first | rw [if_pos trivial] | rw [if_pos (by omega)] | rw [if_neg (by omega)]); rfl
  have g0 : w4.heap[w.heap.size]? = some (.cells #[.slice a ls.length c] 22 (0, 0)) := (HB4.out.1.block _ (by omega)).trans H1.out.2.1
  have g1 : w4.heap[w.heap.size + 1]? = some (.cells #[.bool false] 4 (0, 0)) := (HB4.out.1.block _ (by omega)).trans H1.out.2.2.1
  have b4i : Below w.heap.size w Wi := HB4.out.2.trans (bi.mono HB4.out.2.size)
  have iter := all_iter w4.heap.size (HH.out.below b4i) (HM.out.below b4i) hu cx
  have hz04 := HB4.out.2.size
  have HG0 := Lib.hid (And.intro g0 g1)
  clear hWi cx g0 g1 he
  refine rangeFunc_iter (by omega) (gf := 56) (lb := #[.pointer (some ⟨w4.heap.size, 0, none⟩)]) rfl (enters_of Tryz.func56 (by kernel_rfl) rfl) iter
    (fun h1 h2 => h1.trans h2) (fun V l o o' _ h1 h2 _ => KpC.putObj _ V l o o' h1 h2) (Below.refl _ _) (fun _ => rfl)
    (fun pre V => Below w4.heap.size w4 V ∧ V.heap[w4.heap.size + 1]? = some (.cells #[.int .i64 (pre.length : Int)] 3 (0, 0)))
    (fun c pre V => False) ?hI ?hIx ⟨bi, en0⟩ ?round ?done ?stop
  case hI => exact OwnFrom.and (own_below (by omega) (by omega)) (own_heap (by omega) _)
  case hIx => exact fun c s A B row hs hg hr => hs
  case stop => exact fun _ _ _ _ _ _ _ h _ => h.elim
  case round =>
    rintro l' pre x V0 ⟨rest, hpr⟩ hsz0 hi0
    obtain ⟨hk, rfl⟩ := en_at hpr
    dsimp only [enc2]
    gi_wp2
    refine ⟨Keep.refl _ _ _, KpC.refl _ _, hi0, ?_⟩
    rintro V - - - hszV ⟨hB, gn⟩
    clear hi0 hpr
    have hB0 : Below w.heap.size w V := HB4.out.2.trans (hB.mono hz04)
    have y0 : V.cell? ⟨w.heap.size, 0, none⟩ = some (.slice a ls.length c) := (cell_of_row V _ 0 _ _ _ ((hB.block _ (by omega)).trans HG0.out.1)).trans (by simp)
    have yn : V.cell? ⟨w4.heap.size + 1, 0, none⟩ = some (.int .i64 (pre.length : Int)) := (cell_of_row V _ 0 _ _ _ gn).trans (by simp)
    have zn : V.frozen? ⟨w4.heap.size + 1, 0, none⟩ = false := frozen_of_row V _ 0 _ _ gn
    obtain ⟨sb, so, rfl, hcs, hnc, _⟩ := Ss.read (SrcV.below HS.out hB0) pre.length hk
    generalize ls[pre.length] = st at *
    have hnp : ((pre.length : Int) != (pre.length : Int)) = false := bne_self_eq_false _
    have HGN := Lib.hid (And.intro hB gn)
    clear hB gn hB0
    gi_wp2
    obtain ⟨hB, gn⟩ := HGN.out
    have f1 : Fr (fun k => k = w4.heap.size + 1) V (V.setCell ⟨w4.heap.size + 1, 0, none⟩ (.int .i64 ((pre.length : Int) + 1))) := (Fr.refl (fun k => k = w4.heap.size + 1) V).setCell (p := ⟨w4.heap.size + 1, 0, none⟩) (fun _ => rfl) _
    refine ⟨Keep.ofFr f1 (by omega) (by intro k hk; omega), KpC.ofFr f1 (by intro k hk; omega), hB.setCell (p := ⟨w4.heap.size + 1, 0, none⟩) (by show w4.heap.size ≤ w4.heap.size + 1; omega) _, ?_⟩
    rw [heap_setCell_same _ _ _ _ _ _ gn]
    simp
  case done =>
    rintro D V hD ⟨hB, gn⟩ hk
    rw [en_length] at gn
    have hbV : Below w.heap.size w V := HB4.out.2.trans (hB.mono hz04)
    have hl1 := line_out (HH.out.below hbV) ls.length (by omega)
    have hl2 := line_out (HH.out.below hbV) (-1) (by omega)
    have y0 : V.cell? ⟨w.heap.size, 0, none⟩ = some (.slice a ls.length c) := (cell_of_row V _ 0 _ _ _ ((hB.block _ (by omega)).trans HG0.out.1)).trans (by simp)
    have yn : V.cell? ⟨w4.heap.size + 1, 0, none⟩ = some (.int .i64 (ls.length : Int)) := (cell_of_row V _ 0 _ _ _ gn).trans (by simp)
    have gb : V.heap[w.heap.size + 1]? = some (.cells #[.bool false] 4 (0, 0)) := (hB.block _ (by omega)).trans HG0.out.2
    have y1 : V.cell? ⟨w.heap.size + 1, 0, none⟩ = some (.bool false) := (cell_of_row V _ 0 _ _ _ gb).trans (by simp)
    have z1 : V.frozen? ⟨w.heap.size + 1, 0, none⟩ = false := frozen_of_row V _ 0 _ _ gb
    have hnn : ((ls.length : Int) == (ls.length : Int)) = true := beq_self_eq_true _
    have HV := Lib.hid (And.intro hbV gb)
    have HK := Lib.hid hk
    clear hB gn gb hbV hk
    gi_wp2
    refine ⟨trivial, ?_⟩
    refine (callsIn_wide.2 hl1).mono ?_
    rintro e w' ⟨rfl, rfl⟩
    clear hl1
    gi_wp2
    refine ⟨trivial, ?_⟩
    refine (callsIn_wide.2 hl2).mono ?_
    rintro e w' ⟨rfl, rfl⟩
    clear hl2
    gi_wp2
    obtain ⟨hbV, gb⟩ := HV.out
    obtain ⟨X, hX⟩ : ∃ X, X = V.setCell ⟨w.heap.size + 1, 0, none⟩ (.bool true) := ⟨_, rfl⟩
    have hDw : D ≠ w.heap.size + 1 := by omega
    have hgX : X.heap[w.heap.size + 1]? = some (.cells #[.bool true] 4 (0, 0)) := by
      rw [hX, heap_setCell_same _ _ _ _ _ _ gb]; simp
    have hXD : X.heap[D]? = some (.deferred (some [])) := by rw [hX]; exact (heap_setCell_other V ⟨w.heap.size + 1, 0, none⟩ D _ hDw).trans HK.out
    have hbX : Below w.heap.size w X := by rw [hX]; exact hbV.setCell (p := ⟨w.heap.size + 1, 0, none⟩) (by show w.heap.size ≤ w.heap.size + 1; omega) _
    have hcelld : (X.putObj D (.deferred none)).cell? ⟨w.heap.size + 1, 0, none⟩ = some (.bool true) := (cell_of_row _ _ 0 _ _ _ ((World.putObj_heap_other (fun e => hDw e.symm)).trans hgX)).trans (by simp)
    rw [← hX]
    refine ⟨by simp, .inl ⟨_, _, rfl, run_takeDeferred (w := X) hXD, ?_⟩⟩
    exact ⟨.bool true, by simp [results, Tryz.results14, go_sem, hcelld], rfl, hbX.grown (grownBy_putObj' _ D _) hbX.size (fun k e => by cases e; omega)⟩
end Go.Proofs.YtfllgmgipmmpkaaGreatDoor.Bf
