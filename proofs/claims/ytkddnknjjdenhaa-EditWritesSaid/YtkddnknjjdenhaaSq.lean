/-
  Texts of ranges held against one another; the seat's places.
-/
import Derived.Test.YtkddnknjjdenhaaSk
set_option linter.unusedVariables false
set_option linter.unusedSimpArgs false
set_option maxRecDepth 100000
namespace Go.Proofs.Ytkddnknjjdenhaa.So
open Go Go.RowKit Go.Proofs.Ytkddnknjjdenhaa.Vk Go.Proofs.Ytkddnknjjdenhaa.Str Go.Proofs.Ytkddnknjjdenhaa.Ln Go.Proofs.Ytkddnknjjdenhaa.Cl
attribute [local go_sem] Oper.semAt_some

theorem str_ext {x y : ByteArray} (h : x.data.toList = y.data.toList) : x = y := by
  cases x; cases y; simp only [ByteArray.mk.injEq]; exact Array.toList_inj.1 h
theorem ext_all (s : ByteArray) : s.extract 0 s.size = s := str_ext (by rw [ext_upto, ← size_str, List.take_length])
theorem ext_join (s : ByteArray) (a b c : Nat) (h : a ≤ b) (k : b ≤ c) : s.extract a b ++ s.extract b c = s.extract a c := by
  apply str_ext
  rw [app_list, ext_list, ext_list, ext_list]
  generalize s.data.toList = l
  rw [List.drop_take, List.drop_take, List.drop_take]
  have e : c - a = (b - a) + (c - b) := by omega
  rw [e, List.take_add, List.drop_drop]
  congr 3
  omega

/-- A place of the text. -/
def Plc (ls : List ByteArray) (l c : Int) : Prop := 0 ≤ l ∧ l < ls.length ∧ 0 ≤ c ∧ c ≤ (lineAt ls l.toNat).size
theorem ins_of {ls : List ByteArray} {l c : Int} (h : Plc ls l c) : ins ls l c = true := by
  obtain ⟨h1, h2, h3, h4⟩ := h
  have e : clL ls l = l.toNat := by unfold clL; obtain ⟨m, rfl⟩ : ∃ m : Nat, l = m := ⟨l.toNat, by omega⟩; rw [cl_in (by omega)]; rfl
  have e2 : clC ls l c true = c.toNat := by
    unfold clC
    rw [e]
    unfold top
    rw [if_pos rfl]
    obtain ⟨m, rfl⟩ : ∃ m : Nat, c = m := ⟨c.toNat, by omega⟩
    rw [cl_in (by omega)]; rfl
  unfold ins
  rw [e, e2]
  simp only [Bool.and_eq_true, decide_eq_true_eq]
  omega
theorem vld_char {ls : List ByteArray} {fl fc tl tc : Int} (h1 : Plc ls fl fc) (h2 : Plc ls tl tc) (h : lt tl tc fl fc = false) : vld ls 0 fl fc tl tc = true := by
  unfold vld
  rw [if_pos rfl, ins_of h1, ins_of h2, h]
  unfold lt at h
  rw [decide_eq_false_iff_not] at h
  have := h1.1
  have := h2.2.1
  simp only [Bool.true_and, Bool.not_false, Bool.and_true, decide_eq_true_eq]
  omega

theorem txt_get (ls : List ByteArray) (k fl fc tl tc : Int) (i : Nat) (h : i < (tl - fl + 1).toNat) : (txt ls k fl fc tl tc)[i]? = some (part k fl fc tl tc (fl.toNat + i, lineAt ls (fl.toNat + i))) := by
  unfold txt
  rw [List.getElem?_map, enr_get _ _ _ _ h]; rfl
/-- Where each part is the line, the text is the lines. -/
theorem txt_lines (ls : List ByteArray) (k fc tl tc : Int) (hl : tl = (ls.length : Int) - 1) (h : ∀ i, i < ls.length → part k 0 fc tl tc (i, lineAt ls i) = lineAt ls i) : txt ls k 0 fc tl tc = ls := by
  apply List.ext_getElem?
  intro i
  by_cases hi : i < ls.length
  · rw [txt_get _ _ _ _ _ _ _ (by omega), show (0 : Int).toNat + i = i by simp, h i hi, lineAt_get hi, List.getElem?_eq_getElem hi]
  · rw [List.getElem?_eq_none (by rw [txt_length]; omega), List.getElem?_eq_none (by omega)]

theorem whole_char (ls : List ByteArray) (h : 0 < ls.length) : vld ls 0 0 0 ((ls.length : Int) - 1) (lineAt ls (ls.length - 1)).size = true ∧ txt ls 0 0 0 ((ls.length : Int) - 1) (lineAt ls (ls.length - 1)).size = ls := by
  have e : ((ls.length : Int) - 1).toNat = ls.length - 1 := by omega
  refine ⟨vld_char ⟨by omega, by omega, by omega, by omega⟩ ⟨by omega, by omega, by omega, by rw [e]; omega⟩ ?_, txt_lines _ _ _ _ _ rfl fun i hi => ?_⟩
  · unfold lt; rw [decide_eq_false_iff_not]; omega
  · unfold part colF colT
    dsimp only
    rw [if_pos rfl, if_pos rfl]
    have e1 : (if (i : Int) = 0 then (0 : Int) else 0) = 0 := by split <;> rfl
    rw [e1]
    by_cases h1 : (i : Int) = (ls.length : Int) - 1
    · rw [if_pos h1, show ls.length - 1 = i by omega]
      exact ext_all _
    · rw [if_neg h1]
      exact ext_all _
theorem whole_line (ls : List ByteArray) (h : 0 < ls.length) : vld ls 1 0 0 ((ls.length : Int) - 1) 0 = true ∧ txt ls 1 0 0 ((ls.length : Int) - 1) 0 = ls := by
  refine ⟨?_, txt_lines _ _ _ _ _ rfl fun i hi => ?_⟩
  · unfold vld
    rw [if_neg (by decide), if_pos rfl]
    simp only [Bool.and_true, decide_eq_true_eq]
    omega
  · unfold part colF colT
    dsimp only
    rw [if_neg (by decide), if_neg (by decide), if_neg (by decide), if_neg (by decide)]
    exact ext_all _
theorem whole_block (ls : List ByteArray) (h : 0 < ls.length) (m : Int) (h0 : 0 ≤ m) (hm : ∀ i, i < ls.length → ((lineAt ls i).size : Int) ≤ m) : vld ls 2 0 0 ((ls.length : Int) - 1) m = true ∧ txt ls 2 0 0 ((ls.length : Int) - 1) m = ls := by
  refine ⟨?_, txt_lines _ _ _ _ _ rfl fun i hi => ?_⟩
  · unfold vld
    rw [if_neg (by decide), if_neg (by decide), if_pos rfl]
    simp only [Bool.and_eq_true, decide_eq_true_eq]
    omega
  · have := hm i hi
    unfold part colF colT
    dsimp only
    rw [if_neg (by decide), if_pos rfl, if_neg (by decide), if_pos rfl]
    rw [show min (0 : Int) ((lineAt ls i).size : Int) = 0 by omega, show min m (((lineAt ls i).size : Int) - 1) + 1 = ((lineAt ls i).size : Int) by omega]
    exact ext_all _

/-- Two ranges that touch have what the one over both has. -/
theorem parts_join (ls : List ByteArray) (xl xc yl yc zl zc : Int) (hx : Plc ls xl xc) (hy : Plc ls yl yc) (hz : Plc ls zl zc) (h1 : lt yl yc xl xc = false) (h2 : lt zl zc yl yc = false)
    (s t : List ByteArray) (hs : s = txt ls 0 xl xc yl yc) (ht : t = txt ls 0 yl yc zl zc) (k : Nat) (hk : s.length = k + 1) (a b : ByteArray) (ha : s[k]? = some a) (hb : t[0]? = some b) :
    s.take k ++ [a ++ b] ++ t.drop 1 = txt ls 0 xl xc zl zc := by
  unfold lt at h1 h2
  rw [decide_eq_false_iff_not] at h1 h2
  obtain ⟨x1, x2, x3, x4⟩ := hx
  obtain ⟨y1, y2, y3, y4⟩ := hy
  obtain ⟨z1, z2, z3, z4⟩ := hz
  obtain ⟨p, rfl⟩ : ∃ p : Nat, xl = p := ⟨xl.toNat, by omega⟩
  obtain ⟨q, rfl⟩ : ∃ q : Nat, yl = q := ⟨yl.toNat, by omega⟩
  obtain ⟨r, rfl⟩ : ∃ r : Nat, zl = r := ⟨zl.toNat, by omega⟩
  obtain ⟨u, rfl⟩ : ∃ u : Nat, xc = u := ⟨xc.toNat, by omega⟩
  obtain ⟨v, rfl⟩ : ∃ v : Nat, yc = v := ⟨yc.toNat, by omega⟩
  obtain ⟨o, rfl⟩ : ∃ o : Nat, zc = o := ⟨zc.toNat, by omega⟩
  rw [Int.toNat_natCast] at x4 y4 z4
  have hsl : s.length = q - p + 1 := by rw [hs, txt_length]; omega
  have htl : t.length = r - q + 1 := by rw [ht, txt_length]; omega
  have hkq : k = q - p := by omega
  have hpt : ∀ (fl fc tl tc : Nat) (x : Nat × ByteArray), part 0 fl fc tl tc x = x.2.extract (if x.1 = fl then fc else 0) (if x.1 = tl then tc else x.2.size) := by
    intro fl fc tl tc x
    unfold part colF colT
    rw [if_pos rfl, if_pos rfl]
    congr 1
    · by_cases h : x.1 = fl
      · rw [if_pos h, if_pos (by omega)]; rfl
      · rw [if_neg h, if_neg (by omega)]; rfl
    · by_cases h : x.1 = tl
      · rw [if_pos h, if_pos (by omega)]; rfl
      · rw [if_neg h, if_neg (by omega)]; rfl
  have hget : ∀ (fl fc tl tc : Nat) (i : Nat), fl ≤ tl → i < tl - fl + 1 → (txt ls 0 fl fc tl tc)[i]? = some ((lineAt ls (fl + i)).extract (if fl + i = fl then fc else 0) (if fl + i = tl then tc else (lineAt ls (fl + i)).size)) := by
    intro fl fc tl tc i h hi
    rw [txt_get _ _ _ _ _ _ _ (by omega), hpt, Int.toNat_natCast]
  have hal : (s.take k).length = k := by rw [List.length_take]; omega
  apply List.ext_getElem?
  intro i
  rcases Nat.lt_trichotomy i k with hi | hi | hi
  · rw [List.append_assoc, List.getElem?_append_left (by omega), List.getElem?_take, if_pos hi, hs, hget _ _ _ _ _ (by omega) (by omega), hget _ _ _ _ _ (by omega) (by omega)]
    rw [if_neg (show ¬ p + i = q by omega), if_neg (show ¬ p + i = r by omega)]
  · subst hi
    rw [List.append_assoc, List.getElem?_append_right (by omega), hal, Nat.sub_self, hget _ _ _ _ _ (by omega) (by omega)]
    rw [hs, hget _ _ _ _ _ (by omega) (by omega)] at ha
    rw [ht, hget _ _ _ _ _ (by omega) (by omega)] at hb
    have e : p + i = q := by omega
    rw [e, if_pos rfl] at ha
    rw [Nat.add_zero, if_pos rfl] at hb
    rw [e]
    simp only [Option.some.injEq] at ha hb
    have hto : v ≤ (if q = r then o else (lineAt ls q).size) := by
      by_cases h : q = r
      · rw [if_pos h]; omega
      · rw [if_neg h]; omega
    have hfr : (if q = p then u else 0) ≤ v := by
      by_cases h : q = p
      · rw [if_pos h]; omega
      · rw [if_neg h]; omega
    rw [← ha, ← hb, ext_join _ _ _ _ hfr hto]
    rfl
  · rw [List.getElem?_append_right (by rw [List.length_append, hal]; simp; omega), List.length_append, hal, List.getElem?_drop]
    have e : 1 + (i - (k + [a ++ b].length)) = i - k := by simp; omega
    rw [e, ht]
    by_cases hin : i < r - p + 1
    · rw [hget _ _ _ _ _ (by omega) (by omega), hget _ _ _ _ _ (by omega) (by omega), show q + (i - k) = p + i by omega]
      rw [if_neg (show ¬ p + i = q by omega), if_neg (show ¬ p + i = p by omega)]
    · rw [List.getElem?_eq_none (by rw [txt_length]; omega), List.getElem?_eq_none (by rw [txt_length]; omega)]

theorem txt_size (ls : List ByteArray) (k fl fc tl tc : Int) (z : Nat) (h : ∀ s ∈ ls, s.size ≤ z) : ∀ s ∈ txt ls k fl fc tl tc, s.size ≤ z := by
  intro s hs
  unfold txt enr at hs
  rw [List.map_map] at hs
  obtain ⟨i, _, rfl⟩ := List.mem_map.1 hs
  have hl : (lineAt ls (fl.toNat + i)).size ≤ z := by
    by_cases hi : fl.toNat + i < ls.length
    · rw [lineAt_get hi]; exact h _ (List.getElem_mem hi)
    · have : lineAt ls (fl.toNat + i) = ⟨#[]⟩ := by unfold lineAt; rw [List.getElem?_eq_none (by omega)]; rfl
      rw [this]; exact Nat.zero_le _
  simp only [Function.comp, part]
  rw [ByteArray.size_extract]
  omega

theorem place_any (a : Option Addr) (n c' : Nat) (ls : List ByteArray) (x y : Int) (w : World) (h : Ss w a n c' ls) (h0 : 0 < n) (hs : ∀ s ∈ ls, s.size ≤ 140737488355328) (hx : 0 ≤ x ∧ x ≤ 65535) (hy : 0 ≤ y ∧ y ≤ 65535) :
    Calls Try.prog 12 #[.slice a n c', .int .u16 x, .int .u16 y] w fun e w' => (∃ l c : Int, e = .returned (.agg #[.int .i64 l, .int .i64 c]) ∧ Plc ls l c) ∧ Below w.heap.size w w' := by
  have hlen := h.length
  have hn := h.le63
  obtain ⟨l, hl, hln⟩ : ∃ l : Nat, x.tmod n = (l : Int) ∧ l < n := by
    have h1 := Int.tmod_lt_of_pos x (b := (n : Int)) (by omega)
    have h2 := Int.tmod_nonneg (n : Int) hx.1
    exact ⟨(x.tmod n).toNat, by omega, by omega⟩
  obtain ⟨b, o, rfl, hc, hnc, _⟩ := h.read l (by omega)
  have hlt := lineAt_get (ls := ls) (k := l) (by omega)
  have hsz := hs (ls[l]'(by omega)) (List.getElem_mem (by omega))
  rw [← hlt] at hc hsz
  obtain ⟨st, hst⟩ : ∃ st, st = lineAt ls l := ⟨_, rfl⟩
  rw [← hst] at hc hsz
  obtain ⟨m, hm, hmn⟩ : ∃ m : Nat, y.tmod ((st.size : Int) + 1) = (m : Int) ∧ m ≤ st.size := by
    have h1 := Int.tmod_lt_of_pos y (b := (st.size : Int) + 1) (by omega)
    have h2 := Int.tmod_nonneg ((st.size : Int) + 1) hy.1
    exact ⟨(y.tmod ((st.size : Int) + 1)).toNat, by omega, by omega⟩
  have hP : Plc ls (l : Int) (m : Int) := ⟨by omega, by omega, by omega, by rw [Int.toNat_natCast, ← hst]; omega⟩
  have hw1 : IntKind.i64.wrap x = x := by rw [IntKind.wrap_i64]; omega
  have hw2 : IntKind.i64.wrap y = y := by rw [IntKind.wrap_i64]; omega
  have hw3 : IntKind.i64.wrap ((st.size : Int) + 1) = (st.size : Int) + 1 := by rw [IntKind.wrap_i64]; omega
  have hw4 : IntKind.i64.wrap (l : Int) = (l : Int) := by rw [IntKind.wrap_i64]; omega
  have hw5 : IntKind.i64.wrap (m : Int) = (m : Int) := by rw [IntKind.wrap_i64]; omega
  have hc2 := cell_one hc
  have HP := Lib.hid hP
  clear h hs hst hlt hP
  go_enter Try.func12, Try.ntmps12
  go_wp2
  exact bodyPost_ret (results_cell_row (P := Try.prog) rfl _ _ w.heap.size _ #[.int .i64 (l : Int), .int .i64 (m : Int)] _ _ rfl (heap_alloc_new w _) Try.underlying24 rfl (by kernel_rfl)) rfl ⟨⟨_, _, rfl, HP.out⟩, (Below.refl _ w).alloc (Nat.le_refl _) _⟩

end Go.Proofs.Ytkddnknjjdenhaa.So
