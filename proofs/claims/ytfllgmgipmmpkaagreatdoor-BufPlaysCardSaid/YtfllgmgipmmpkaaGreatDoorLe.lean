/-
  Indexes of lines told by their text: New, Insert, Delete.
-/
import Derived.Test.YtfllgmgipmmpkaaGreatDoorLa
set_option linter.unusedVariables false
set_option linter.unusedSimpArgs false
set_option maxRecDepth 100000
namespace Go.Proofs.YtfllgmgipmmpkaaGreatDoor.Lx
open Go Go.RowKit Go.Proofs.YtfllgmgipmmpkaaGreatDoor.Vk Go.Proofs.YtfllgmgipmmpkaaGreatDoor.Lm Go.Shelf
open VecI (E)

/-- Where the lines of t begin, as what the list holds. -/
def sti (t : List UInt8) : List Int := (st t).map Int.ofNat
theorem sti_length (t : List UInt8) : (sti t).length = (st t).length := by simp [sti]
theorem sti_getD (t : List UInt8) (j : Nat) : (sti t).getD j 0 = (at0 t j : Nat) := by
  unfold sti at0
  rw [List.getD_eq_getElem?_getD, List.getElem?_map, List.getD_eq_getElem?_getD]
  cases (st t)[j]? <;> rfl
theorem at0_le_length (t : List UInt8) (j : Nat) : at0 t j ≤ t.length := by
  rcases Nat.lt_or_ge j (st t).length with h | h
  · exact at0_bound t j h
  · unfold at0; rw [List.getD_eq_getElem?_getD, List.getElem?_eq_none h]; simp
theorem sti_take (t : List UInt8) (i : Nat) (hi : i ≤ t.length) : (sti t).take (ln t i + 1) = sti (t.take i) := by
  unfold sti; rw [← List.map_take, st_take t i hi]
theorem sti_drop (t : List UInt8) (i : Nat) (hi : i ≤ t.length) : (sti t).drop (ln t i + 1) = (bg i (t.drop i)).map Int.ofNat := by
  unfold sti; rw [← List.map_drop, st_drop t i hi]
theorem sti_cut (t : List UInt8) (i : Nat) (hi : i ≤ t.length) (j : Nat) (hj : j < (sti t).length) : (sti t).getD j 0 ≤ (i : Int) ↔ j < ln t i + 1 := by
  rw [sti_length] at hj
  have h := st_le t i j hi hj
  rw [st_take_length] at h
  rw [sti_getD]
  unfold at0
  omega
theorem sti_insert (t s : List UInt8) (i : Nat) (hi : i ≤ t.length) :
    sti (t.take i) ++ (bgi s).map (· + (i : Int)) ++ ((bg i (t.drop i)).map Int.ofNat).map (· + (s.length : Int)) = sti (t.take i ++ s ++ t.drop i) := by
  unfold sti bgi
  rw [st_insert t s i hi, List.map_append, List.map_append]
  simp only [List.map_map]
  congr 1
theorem sti_delete (t : List UInt8) (i n : Nat) (hi : i + n ≤ t.length) :
    sti (t.take i) ++ ((bg (i + n) (t.drop (i + n))).map Int.ofNat).map (· + (-(n : Int))) = sti (t.take i ++ t.drop (i + n)) := by
  unfold sti
  rw [st_delete t i n hi, List.map_append]
  simp only [List.map_map]
  congr 1
  refine List.map_congr_left fun x hx => ?_
  have := bg_gt hx
  simp only [Function.comp]
  show Int.ofNat x + -(n : Int) = ((x - n : Nat) : Int)
  have : Int.ofNat x = (x : Int) := rfl
  omega

/-- An index at block p of the text t; F: its blocks. -/
def Idx (w : World) (base p : Nat) (F : Nat → Prop) (t : List UInt8) : Prop := ∃ q r, F = foot p q r ∧ Ix w base p q r (sti t) t.length

/-- What a call that changes it leaves. -/
def IChanged (w : World) (base p : Nat) (F : Nat → Prop) (t : List UInt8) (w' : World) : Prop := ∃ F', Idx w' base p F' t ∧ Fr F w w' ∧ ∀ k, F' k → F k ∨ w.heap.size ≤ k

variable {w w' : World} {base p : Nat} {F : Nat → Prop} {t : List UInt8}

theorem Idx.footLt (h : Idx w base p F t) (k : Nat) (hk : F k) : base ≤ k ∧ k < w.heap.size := by
  obtain ⟨q, r, rfl, hx⟩ := h
  exact hx.footLt k hk
theorem Idx.fr {S : Nat → Prop} (h : Idx w base p F t) (hf : Fr S w w') (hs : ∀ k, F k → ¬ S k) : Idx w' base p F t := by
  obtain ⟨q, r, rfl, hx⟩ := h
  exact ⟨q, r, rfl, hx.fr hf hs⟩
theorem Idx.below (h : Idx w base p F t) (hb : Below w.heap.size w w') : Idx w' base p F t := h.fr (Fr.ofBelow hb (fun _ => False)) (by simp)
theorem Idx.mono {base' : Nat} (h : Idx w base p F t) (hb : base' ≤ base) : Idx w base' p F t := by
  obtain ⟨q, r, rfl, hx⟩ := h
  exact ⟨q, r, rfl, hx.mono hb⟩
theorem IChanged.below (h : IChanged w base p F t w') {B : Nat} (hB : B ≤ w.heap.size) (hF : ∀ k, F k → B ≤ k) : Below B w w' := by
  obtain ⟨F', -, hf, -⟩ := h
  exact hf.below hB hF

theorem app_assoc3 (a b c : List UInt8) : a ++ (b ++ c) = a ++ b ++ c := by simp

/-- The size is written. -/
theorem Ix.resize {q : Nat} {r : Option Nat} {zs : List Int} {size : Int} (h : Ix w base p q r zs size) (size' : Int) : Ix (w.setCell ⟨p, 1, none⟩ (.int .i64 size')) base p q r zs size' := by
  have hf : Fr (fun b => b = p) w (w.setCell ⟨p, 1, none⟩ (.int .i64 size')) := Fr.setCell (S := fun b => b = p) (p := ⟨p, 1, none⟩) (Fr.refl _ w) (fun _ => rfl) _
  refine ⟨?_, h.bp, h.vec.fr hf h.qp (fun k hk e => h.rp (e ▸ hk)), h.qp, h.rp⟩
  have := heap_setCell_same w p 1 _ _ (.int .i64 size') h.head
  simpa using this

/-- A tail put back behind what was cut: of Insert and of Delete. -/
theorem add_tail {q : Nat} {r : Option Nat} {zs : List Int} {size : Int} (h : Ix w base p q r zs size) (b : Option Addr) (c : Nat) (xs : List Int) (base' : Nat) (ho : w.ownsRow base' E 1 (.slice b xs.length c) xs.length (iv xs)) (hdis : ∀ k, (Value.slice b xs.length c).ownBlock = some k → k ≠ q ∧ r ≠ some k)
    (by_ : Int) (hx : ∀ x ∈ xs, -9223372036854775808 ≤ x + by_ ∧ x + by_ ≤ 9223372036854775807) (hn : zs.length + xs.length ≤ 900000) :
    Calls Tryz.prog 72 #[.pointer (some ⟨p, 0, none⟩), .func (.func 91) #[] #[.pointer (some ⟨w.heap.size, 0, none⟩)], .int .i64 by_] (w.alloc (.cells #[.slice b xs.length c] 111)) fun e w' => (∃ v, e = .returned v) ∧
      ∃ r', Ix w' base p q r' (zs ++ xs.map (· + by_)) size ∧ Fr (fun b => b = q ∨ r = some b) w w' ∧ (r' = r ∨ ∃ g, r' = some g ∧ w.heap.size ≤ g) := by
  have hfr : Fr (fun _ => False) w (w.alloc (.cells #[.slice b xs.length c] 111)) := (Fr.refl _ w).alloc _
  have hbb : (w.alloc (.cells #[.slice b xs.length c] 111)).cell? ⟨w.heap.size, 0, none⟩ = some (.slice b xs.length c) := (cell_of_row _ _ 0 _ _ _ (heap_alloc_new w _)).trans (by simp)
  have hsz := hfr.size
  have hs1 : (w.alloc (.cells #[.slice b xs.length c] 111)).heap.size = w.heap.size + 1 := by simp
  refine (add_any (h.fr hfr (by simp)) _ _ (enters_of Tryz.func91 (by kernel_rfl) rfl) _ xs (values_iter w.heap.size b c xs base' _ hbb (ownsRow_fr ho hfr (by simp)) (by omega)) (fun k hk => ?_) by_ hx hn).mono ?_
  · rcases hk with rfl | hk
    · refine ⟨by omega, fun e => ?_, fun e => ?_⟩
      · have := h.vec.lt.2; omega
      · have := (h.vec.rowLt _ e).2; omega
    · exact ⟨by have := (ho.lt k hk).2; omega, hdis k hk⟩
  · rintro e w' ⟨he, r', hx', hf, hr⟩
    refine ⟨he, r', hx', (hfr.mono (fun _ _ h => h.elim)).trans hf, ?_⟩
    rcases hr with h | ⟨g, h, hg⟩
    · exact .inl h
    · exact .inr ⟨g, h, by omega⟩

/-- The lines of a string put in, behind what was cut. -/
theorem add_begun {q : Nat} {r : Option Nat} {zs : List Int} {size : Int} (h : Ix w base p q r zs size) (s : ByteArray) (off : Nat) (hs : s.size + off ≤ 800000) (hn : zs.length + s.size ≤ 900000) :
    Calls Tryz.prog 72 #[.pointer (some ⟨p, 0, none⟩), .func (.func 90) #[] #[.pointer (some ⟨w.heap.size, 0, none⟩)], .int .i64 off] (w.alloc (.cells #[.string s] 9)) fun e w' => (∃ v, e = .returned v) ∧
      ∃ r', Ix w' base p q r' (zs ++ (bgi s.data.toList).map (· + (off : Int))) size ∧ Fr (fun b => b = q ∨ r = some b) w w' ∧ (r' = r ∨ ∃ g, r' = some g ∧ w.heap.size ≤ g) := by
  have hfr : Fr (fun _ => False) w (w.alloc (.cells #[.string s] 9)) := (Fr.refl _ w).alloc _
  have hbb : (w.alloc (.cells #[.string s] 9)).cell? ⟨w.heap.size, 0, none⟩ = some (.string s) := (cell_of_row _ _ 0 _ _ _ (heap_alloc_new w _)).trans (by simp)
  have hsz := hfr.size
  have hs1 : (w.alloc (.cells #[.string s] 9)).heap.size = w.heap.size + 1 := by simp
  have hsl : s.data.toList.length = s.size := by rw [Array.length_toList]; rfl
  have hbl : (bgi s.data.toList).length ≤ s.size := by unfold bgi; rw [List.length_map, ← hsl]; exact bg_le_length _ _
  refine (add_any (h.fr hfr (by simp)) _ _ (enters_of Tryz.func90 (by kernel_rfl) rfl) _ (bgi s.data.toList) (begun_iter w.heap.size s _ hbb (by omega)) (fun k hk => ?_) off (fun x hx => ?_) (by omega)).mono ?_
  · subst hk
    refine ⟨by omega, fun e => ?_, fun e => ?_⟩
    · have := h.vec.lt.2; omega
    · have := (h.vec.rowLt _ e).2; omega
  · obtain ⟨k, hk, rfl⟩ := List.mem_map.1 hx
    have := bg_gt hk
    show _ ≤ (k : Int) + _ ∧ (k : Int) + _ ≤ _
    omega
  · rintro e w' ⟨he, r', hx', hf, hr⟩
    refine ⟨he, r', hx', (hfr.mono (fun _ _ h => h.elim)).trans hf, ?_⟩
    rcases hr with h | ⟨g, h, hg⟩
    · exact .inl h
    · exact .inr ⟨g, h, by omega⟩

theorem sti_after {q : Nat} {r : Option Nat} {size : Int} (h : Ix w base p q r (sti t) size) (off : Nat) (ho : off ≤ t.length) (hT : t.length ≤ 800000) :
    Calls Tryz.prog 71 #[.pointer (some ⟨p, 0, none⟩), .int .i64 off] w fun e w' => e = .returned (.int .i64 ((ln t off + 1 : Nat) : Int)) ∧ Below w.heap.size w w' := by
  have hl := st_length_le t
  have h2 := ln_lt t off
  exact after_any h off (ln t off + 1) (by rw [sti_length]; omega) (by rw [sti_length]; omega) (fun j hj => sti_cut t off ho j hj)

set_option maxHeartbeats 1000000 in
theorem insert_yes (h : Idx w base p F t) (off : Nat) (s : ByteArray) (ho : off ≤ t.length) (hT : t.length + s.size ≤ 400000) :
    Calls Tryz.prog 51 #[.pointer (some ⟨p, 0, none⟩), .int .i64 off, .string s] w fun e w' => e = .returned (.bool true) ∧ IChanged w base p F (t.take off ++ s.data.toList ++ t.drop off) w' := by
  obtain ⟨q, r, hF, hx⟩ := h
  have hsl : s.data.toList.length = s.size := by rw [Array.length_toList]; rfl
  have hh := has_any hx off 0 (by omega) (by omega)
  rw [decide_eq_true (by omega)] at hh
  have ha := sti_after hx off ho (by omega)
  have hfoot := hx.footLt
  have HX := Lib.hid hx
  have hpl := hx.lt
  obtain ⟨m, hm⟩ : ∃ m, m = ln t off + 1 := ⟨_, rfl⟩
  rw [← hm] at ha
  have HM := Lib.hid hm
  clear hx hm
  go_enter Tryz.func51, Tryz.ntmps51
  go_wp2_with fail
  refine hh.mono ?_
  rintro e w' ⟨rfl, rfl⟩
  go_wp2_with fail
  refine ha.mono ?_
  rintro e w1 ⟨rfl, hb1⟩
  have hx1 := HX.out.below hb1
  have hml : m ≤ (sti t).length := by rw [HM.out, sti_length]; have := ln_lt t off; omega
  have hlen : (sti t).length ≤ t.length + 1 := by rw [sti_length]; exact st_length_le t
  have hcut := cut_any hx1 m hml (by omega)
  have HB1 := Lib.hid hb1
  have hs1 := hb1.size
  clear hb1 hx1 ha hh
  go_wp2_with fail
  refine hcut.mono ?_
  rintro e w2 ⟨b, c, rfl, ho2, hx2, hf2⟩
  have hs2 := hf2.size
  have htk : (sti t).take m = sti (t.take off) := by rw [HM.out]; exact sti_take t off ho
  have hdr : (sti t).drop m = (bg off (t.drop off)).map Int.ofNat := by rw [HM.out]; exact sti_drop t off ho
  rw [htk] at hx2
  obtain ⟨xs, hxs⟩ : ∃ xs, xs = (sti t).drop m := ⟨_, rfl⟩
  have hxl : (sti t).length - m = xs.length := by rw [hxs]; simp
  rw [← hxs, hxl] at ho2
  rw [hxl]
  have htl : (sti (t.take off)).length ≤ off + 1 := by rw [sti_length]; have := st_length_le (t.take off); rw [List.length_take] at this; omega
  have hadd := add_begun hx2 s off (by omega) (by omega)
  have HO2 := Lib.hid ho2
  have HX2 := Lib.hid hx2
  have HF2 := Lib.hid hf2
  have HXS := Lib.hid hxs
  have HTK := Lib.hid (And.intro htk hdr)
  clear ho2 hx2 hf2 hxs htk hdr hcut hxl
  go_wp2_with (first | (go_at_call 73; refine (begun_new s _).mono ?_; rintro e w' ⟨rfl, rfl⟩) | (go_at_call 72; fail))
  refine hadd.mono ?_
  rintro e w4 ⟨⟨v4, rfl⟩, r4, hx4, hf4, hr4⟩
  have hs4 := hf4.size
  have hql := (hfoot q (.inr (.inl rfl))).2
  have hdis : ∀ k, (Value.slice b xs.length c).ownBlock = some k → k ≠ q ∧ r ≠ some k := fun k hk => by
    have := (HO2.out.lt k hk).1
    exact ⟨by omega, fun e => by have := (hfoot k (.inr (.inr e))).2; omega⟩
  have ho4 := ownsRow_fr HO2.out hf4 (fun k hk e => e.elim (hdis k hk).1 (hdis k hk).2)
  have hdis4 : ∀ k, (Value.slice b xs.length c).ownBlock = some k → k ≠ q ∧ r4 ≠ some k := fun k hk => by
    refine ⟨(hdis k hk).1, fun e => ?_⟩
    rcases hr4 with h | ⟨g, h, hg⟩
    · exact (hdis k hk).2 (h ▸ e)
    · rw [h] at e; injection e with e
      have := (HO2.out.lt k hk).2; omega
  have hbl : (bgi s.data.toList).length ≤ s.size := by unfold bgi; rw [List.length_map, ← hsl]; exact bg_le_length _ _
  have hxl : xs.length ≤ t.length := by rw [HXS.out, HTK.out.2, List.length_map]; have := bg_le_length (t.drop off) off; simp at this; omega
  have hadd4 := add_tail hx4 b c xs _ ho4 hdis4 (s.size : Int) (fun x hx => by
    rw [HXS.out, HTK.out.2] at hx
    obtain ⟨k, hk, rfl⟩ := List.mem_map.1 hx
    have h1 := bg_gt hk
    rw [List.length_drop] at h1
    show _ ≤ (k : Int) + _ ∧ (k : Int) + _ ≤ _
    omega) (by simp; omega)
  have HX4 := Lib.hid (And.intro hf4 hr4)
  clear hx4 hf4 hr4 ho4 hdis hdis4 hadd
  go_wp2_with (first | (go_at_call 74; refine (values_new _ _ _ _).mono ?_; rintro e w' ⟨rfl, rfl⟩) | (go_at_call 72; fail))
  refine hadd4.mono ?_
  rintro e w6 ⟨⟨v6, rfl⟩, r6, hx6, hf6, hr6⟩
  have hlist : sti (t.take off) ++ (bgi s.data.toList).map (· + (off : Int)) ++ xs.map (· + (s.size : Int)) = sti (t.take off ++ s.data.toList ++ t.drop off) := by
    rw [HXS.out, HTK.out.2, ← hsl]
    exact sti_insert t s.data.toList off ho
  rw [hlist] at hx6
  obtain ⟨k0, k1⟩ := hx6.cells
  have f1 : w6.frozen? ⟨p, 1, none⟩ = false := frozen_of_row _ _ 1 _ _ hx6.head
  have hw1 : IntKind.i64.wrap ((t.length : Int) + s.size) = (t.length : Int) + s.size := by rw [IntKind.wrap_i64]; omega
  have hs6 := hf6.size
  have HX6 := Lib.hid (And.intro hx6 (And.intro hf6 hr6))
  clear hx6 hf6 hr6 hadd4 hlist
  go_wp2
  go_ret
  obtain ⟨hx6, hf6, hr6⟩ := HX6.out
  obtain ⟨hf4, hr4⟩ := HX4.out
  have hr4' : r4 = r ∨ ∃ g, r4 = some g ∧ w.heap.size ≤ g := by
    rcases hr4 with h | ⟨g, h, hg⟩
    · exact .inl h
    · exact .inr ⟨g, h, by omega⟩
  have hr6' : r6 = r ∨ ∃ g, r6 = some g ∧ w.heap.size ≤ g := by
    rcases hr6 with h | ⟨g, h, hg⟩
    · rw [h]; exact hr4'
    · exact .inr ⟨g, h, by omega⟩
  have hff : Fr F w w6 := by
    have h1 : Fr (fun b => b = q ∨ r = some b) w w4 := (Fr.ofBelow HB1.out _).trans (HF2.out.trans hf4)
    have h2 : Fr (fun b => b = q ∨ r = some b) w w6 := h1.trans' hf6 (fun k hk e => by
      rcases e with e | e
      · exact .inl e
      · rcases hr4' with h | ⟨g, h, hg⟩
        · exact .inr (h ▸ e)
        · rw [h] at e; injection e with e; omega)
    exact h2.mono (fun k _ e => by rw [hF]; exact e.elim (fun e => .inr (.inl e)) (fun e => .inr (.inr e)))
  refine ⟨rfl, foot p q r6, ⟨q, r6, rfl, ?_⟩, hff.setCell (p := ⟨p, 1, none⟩) (fun _ => by rw [hF]; exact .inl rfl) _, fun k hk => ?_⟩
  · have h7 := hx6.resize ((t.length : Int) + s.size)
    have e : (((t.take off ++ s.data.toList ++ t.drop off).length : Nat) : Int) = (t.length : Int) + s.size := by
      simp; omega
    rw [e]; exact h7
  · rw [hF]
    rcases hk with hk | hk | hk
    · exact .inl (.inl hk)
    · exact .inl (.inr (.inl hk))
    · rcases hr6' with h | ⟨g, h, hg⟩
      · exact .inl (.inr (.inr (h ▸ hk)))
      · rw [h] at hk; injection hk with hk; exact .inr (by omega)

theorem insert_no (h : Idx w base p F t) (off : Int) (s : ByteArray) (ho : ¬ (0 ≤ off ∧ off ≤ t.length)) (hT : t.length ≤ 800000) :
    Calls Tryz.prog 51 #[.pointer (some ⟨p, 0, none⟩), .int .i64 off, .string s] w fun e w' => e = .returned (.bool false) ∧ w = w' := by
  obtain ⟨q, r, hF, hx⟩ := h
  have hh := has_any hx off 0 (by omega) (by omega)
  rw [decide_eq_false (by omega)] at hh
  clear hx
  go_enter Tryz.func51, Tryz.ntmps51
  go_wp2_with fail
  refine hh.mono ?_
  rintro e w' ⟨rfl, rfl⟩
  go_wp2
  go_ret
  exact ⟨rfl, rfl⟩

theorem delete_no (h : Idx w base p F t) (off n : Int) (ho : ¬ (0 ≤ off ∧ 0 ≤ n ∧ off ≤ t.length ∧ n ≤ t.length - off)) (hT : t.length ≤ 800000) :
    Calls Tryz.prog 54 #[.pointer (some ⟨p, 0, none⟩), .int .i64 off, .int .i64 n] w fun e w' => e = .returned (.bool false) ∧ w = w' := by
  obtain ⟨q, r, hF, hx⟩ := h
  have hh := has_any hx off n (by omega) (by omega)
  rw [decide_eq_false (by omega)] at hh
  clear hx
  go_enter Tryz.func54, Tryz.ntmps54
  go_wp2_with fail
  refine hh.mono ?_
  rintro e w' ⟨rfl, rfl⟩
  go_wp2
  go_ret
  exact ⟨rfl, rfl⟩

end Go.Proofs.YtfllgmgipmmpkaaGreatDoor.Lx
