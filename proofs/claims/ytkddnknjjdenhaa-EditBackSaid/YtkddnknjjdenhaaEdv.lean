/-
  Package edit: shifted and shifted back, turned and turned back: as it was.
-/
import Derived.Test.YtkddnknjjdenhaaEdx
import Derived.Test.YtkddnknjjdenhaaEdq
import Derived.Test.YtkddnknjjdenhaaEdh
import Derived.Test.YtkddnknjjdenhaaEdf
import Derived.Test.YtkddnknjjdenhaaEdo
set_option linter.unusedVariables false
set_option linter.unusedSimpArgs false
set_option maxRecDepth 100000
namespace Go.Proofs.Ytkddnknjjdenhaa.Ed
open Go Go.RowKit Go.Proofs.Ytkddnknjjdenhaa.Vk Go.Proofs.Ytkddnknjjdenhaa.Str Go.Proofs.Ytkddnknjjdenhaa.Ln Go.Proofs.Ytkddnknjjdenhaa.Cl Go.Proofs.Ytkddnknjjdenhaa.Mv

theorem cut_apl {ls Y : List ByteArray} {f t : Nat} (hft : f ≤ t) (ht : t < ls.length) (hY : Y.length = t + 1 - f) : cutL (apl ls f t Y) f t = Y := by
  unfold cutL apl
  rw [List.append_assoc, List.drop_left' (by rw [List.length_take]; omega), List.take_left' hY]
theorem apl_len {ls Y : List ByteArray} {f t : Nat} (hft : f ≤ t) (ht : t < ls.length) (hY : Y.length = t + 1 - f) : (apl ls f t Y).length = ls.length := by
  unfold apl
  rw [List.length_append, List.length_append, List.length_take, List.length_drop]
  omega
theorem apl_at {ls Y : List ByteArray} {f t q : Nat} (hft : f + q ≤ t) (ht : t < ls.length) (hY : Y.length = t + 1 - f) : lineAt (apl ls f t Y) (f + q) = lineAt Y q := by
  rw [← cutL_at hft (by rw [apl_len (by omega) ht hY]; exact ht), cut_apl (by omega) ht hY]
theorem tz_drop (ls : List ByteArray) (k : Nat) : tz (ls.drop k) ≤ tz ls := by
  conv => rhs; rw [← List.take_append_drop k ls]
  rw [tz_append]; omega
theorem apl_tz (ls Y : List ByteArray) (f t : Nat) : tz (apl ls f t Y) ≤ 2 * tz ls + tz Y := by
  unfold apl
  rw [tz_append, tz_append]
  have := tz_take ls f
  have := tz_drop ls (t + 1)
  omega
theorem sh_size (W : Nat) (s : ByteArray) : (sh1 false W s).size ≤ W + s.size := by
  by_cases h : s.size = 0
  · rw [sh_none h]; omega
  · rw [sh_right h, ByteArray.size_append, rep_size]; exact Nat.le_refl _
theorem sh_tz (W : Nat) (C : List ByteArray) : tz (C.map (sh1 false W)) ≤ tz C + W * C.length := by
  induction C with
  | nil => simp [tz]
  | cons s r ih =>
    have := sh_size W s
    rw [List.map_cons, tz_cons, tz_cons, List.length_cons, Nat.mul_add]
    omega
theorem sh_back (W : Nat) (s : ByteArray) : sh1 true W (sh1 false W s) = s := by
  by_cases h : s.size = 0
  · rw [sh_none h, sh_left]
    have := bn_le s
    rw [show min W (bn s) = 0 by omega]
    exact So.ext_all s
  · rw [sh_right h, sh_left]
    have hb : W ≤ bn (rep W 32 ++ s) := by
      unfold bn
      rw [app_list, List.takeWhile_append_of_pos, List.length_append]
      · rw [size_str, rep_size]; omega
      · intro x hx
        unfold rep at hx
        simp only [List.mem_replicate] at hx
        rw [hx.2]; rfl
    rw [Nat.min_eq_left hb]
    apply So.str_ext
    rw [ext_from, app_list, List.drop_left' (by rw [size_str, rep_size])]
theorem sh_back_all (W : Nat) (C : List ByteArray) : (C.map (sh1 false W)).map (sh1 true W) = C := by
  rw [List.map_map]
  conv => rhs; rw [← List.map_id C]
  exact List.map_congr_left fun s _ => sh_back W s

theorem take_min_drop {α : Type} (D : List α) (m : Nat) : D.take m ++ D.drop (D.take m).length = D := by
  rw [List.length_take]
  rcases Nat.le_total m D.length with h | h
  · rw [Nat.min_eq_left h, List.take_append_drop]
  · rw [Nat.min_eq_right h, List.take_of_length_le h, List.drop_length, List.append_nil]
theorem take_mapped {α : Type} (D : List α) (m : Nat) (g : α → α) : ((D.take m).map g ++ D.drop (D.take m).length).take m = (D.take m).map g := by
  rcases Nat.le_total m D.length with h | h
  · exact List.take_left' (by rw [List.length_map, List.length_take]; omega)
  · rw [List.take_of_length_le h, List.drop_length, List.append_nil, List.take_of_length_le (by rw [List.length_map]; exact h)]
theorem map_list (g : UInt8 → UInt8) (s : ByteArray) : (mapB g s).data.toList = s.data.toList.map g := by unfold mapB; simp
/-- The parts of a line in which a part was turned. -/
theorem turn_parts (g : UInt8 → UInt8) (s s' : ByteArray) (F T : Nat) (hF : F ≤ s.size) (hs : s' = (s.extract 0 F ++ mapB g (s.extract F T)) ++ s.extract (F + (s.extract F T).size) s.size) :
    s'.size = s.size ∧ s'.extract 0 F = s.extract 0 F ∧ s'.extract F T = mapB g (s.extract F T) ∧ s'.extract (F + (s'.extract F T).size) s'.size = s.extract (F + (s.extract F T).size) s.size ∧ (s.extract 0 F ++ s.extract F T) ++ s.extract (F + (s.extract F T).size) s.size = s := by
  obtain ⟨l, hl⟩ : ∃ l, l = s.data.toList := ⟨_, rfl⟩
  have hlen : F ≤ l.length := by rw [hl, size_str]; exact hF
  have e0 : (s.extract 0 F).data.toList = l.take F := by rw [ext_upto, hl]
  have e1 : (s.extract F T).data.toList = (l.drop F).take (T - F) := by rw [ext_list, List.drop_take, hl]
  have e1s : (s.extract F T).size = ((l.drop F).take (T - F)).length := by rw [← size_str, e1]
  have e2 : (s.extract (F + (s.extract F T).size) s.size).data.toList = (l.drop F).drop ((l.drop F).take (T - F)).length := by rw [ext_from, List.drop_drop, e1s, hl]
  have e3 : s'.data.toList = (l.take F ++ ((l.drop F).take (T - F)).map g) ++ (l.drop F).drop ((l.drop F).take (T - F)).length := by
    rw [hs, app_list, app_list, map_list, e0, e1, e2]
  have hz : s'.size = s.size := by
    rw [← size_str, e3, ← size_str s, ← hl, List.length_append, List.length_append, List.length_map]
    conv => rhs; rw [← List.take_append_drop F l, ← take_min_drop (l.drop F) (T - F)]
    simp only [List.length_append]
    omega
  have hA : (l.take F).length = F := by rw [List.length_take]; omega
  have p0 : s'.extract 0 F = s.extract 0 F := by
    apply So.str_ext
    rw [ext_upto, e3, e0, List.append_assoc, List.take_left' hA]
  have p1 : s'.extract F T = mapB g (s.extract F T) := by
    apply So.str_ext
    rw [ext_list, List.drop_take, e3, List.append_assoc, List.drop_left' hA, map_list, e1, take_mapped]
  refine ⟨hz, p0, p1, ?_, ?_⟩
  · apply So.str_ext
    rw [e2, ext_from, e3, p1, mapB_size, e1s, List.append_assoc, ← List.drop_drop, List.drop_left' hA, List.drop_left' (by rw [List.length_map])]
  · apply So.str_ext
    rw [app_list, app_list, e0, e1, e2, List.append_assoc, take_min_drop, List.take_append_drop, hl]
theorem map_twice (s : ByteArray) : mapB oth (mapB oth s) = s := by
  apply So.str_ext
  rw [map_list, map_list, List.map_map]
  conv => rhs; rw [← List.map_id s.data.toList]
  exact List.map_congr_left fun x _ => oth_oth x
theorem rline_back (k fl fc tl tc : Int) (j : Nat) (s : ByteArray) (hF : (So.colF k fl fc j s.size).toNat ≤ s.size) :
    (rline (mapB oth) k fl fc tl tc (j, s)).size = s.size ∧ rline (mapB oth) k fl fc tl tc (j, rline (mapB oth) k fl fc tl tc (j, s)) = s := by
  obtain ⟨h1, h2, h3, h4, h5⟩ := turn_parts oth s (rline (mapB oth) k fl fc tl tc (j, s)) (So.colF k fl fc j s.size).toNat (So.colT k tl tc j s.size).toNat hF rfl
  refine ⟨h1, ?_⟩
  obtain ⟨s', hs'⟩ : ∃ s', s' = rline (mapB oth) k fl fc tl tc (j, s) := ⟨_, rfl⟩
  rw [← hs'] at h1 h2 h3 h4 ⊢
  unfold rline So.part
  simp only [h1]
  rw [h1] at h4
  rw [h2, h4, h3, map_twice, h5]
theorem cols_in {ls : List ByteArray} {k f c t d : Nat} (R : Rs ls k f c t d) (q : Nat) : (So.colF k f c ((f + q : Nat)) (lineAt ls (f + q)).size).toNat ≤ (lineAt ls (f + q)).size := by
  unfold So.colF
  split
  · rename_i h
    split
    · rename_i h2
      have e : f + q = f := by omega
      have := (R.pl (by omega)).1
      rw [e]
      omega
    · omega
  · split <;> omega
theorem rmd_at {ls : List ByteArray} {k f c t d : Nat} (G : ByteArray → ByteArray) (q : Nat) (h : f + q ≤ t) : lineAt (rmd G ls k f c t d) q = rline G k f c t d (f + q, lineAt ls (f + q)) := by
  have hq : q < (rmd G ls (k : Int) f c t d).length := by rw [rmd_length]; omega
  have e := rmd_get G ls k f c t d q (by omega)
  rw [Int.toNat_natCast, List.getElem?_eq_getElem hq] at e
  rw [lineAt_get hq]
  exact Option.some.inj e
theorem case_back {ls : List ByteArray} {k f c t d : Nat} (R : Rs ls k f c t d) : rmd (mapB oth) (apl ls f t (rmd (mapB oth) ls k f c t d)) k f c t d = cutL ls f t := by
  have hft := R.ft
  have ht := R.tn
  have hY : (rmd (mapB oth) ls (k : Int) f c t d).length = t + 1 - f := by rw [rmd_length]; omega
  apply List.ext_getElem
  · rw [rmd_length, cutL_length hft ht]; omega
  · intro q h1 h2
    rw [cutL_length hft ht] at h2
    have e1 := rmd_at (ls := apl ls f t (rmd (mapB oth) ls k f c t d)) (k := k) (c := c) (d := d) (mapB oth) q (show f + q ≤ t by omega)
    rw [lineAt_get h1, apl_at (by omega) ht hY, rmd_at _ q (by omega), (rline_back k f c t d (f + q) (lineAt ls (f + q)) (cols_in R q)).2] at e1
    rw [e1, ← cutL_at (by omega) ht, lineAt_get]
theorem rs_vld {ls : List ByteArray} {k f c t d : Nat} (hk : k < 3) (R : Rs ls k f c t d) : So.vld ls k f c t d = true := by
  have hft := R.ft
  have ht := R.tn
  match k, hk with
  | 0, _ =>
    have hp := R.pl (by decide)
    have h1 := R.one
    refine So.vld_char ⟨by omega, by omega, by omega, ?_⟩ ⟨by omega, by omega, by omega, ?_⟩ ?_
    · rw [Int.toNat_natCast]; omega
    · rw [Int.toNat_natCast]; omega
    · unfold So.lt
      rw [decide_eq_false_iff_not]
      omega
  | 1, _ =>
    unfold So.vld
    rw [decide_eq_true (⟨by omega, by omega, by omega⟩ : (0 : Int) ≤ f ∧ (f : Int) ≤ t ∧ (t : Int) < ls.length)]
    rfl
  | 2, _ => exact vld_blk hft ht (R.blk rfl)
theorem rs_apl {ls : List ByteArray} {k f c t d : Nat} (R : Rs ls k f c t d) : Rs (apl ls f t (rmd (mapB oth) ls k f c t d)) k f c t d := by
  have hft := R.ft
  have ht := R.tn
  have hY : (rmd (mapB oth) ls (k : Int) f c t d).length = t + 1 - f := by rw [rmd_length]; omega
  have hz : ∀ q, f + q ≤ t → (lineAt (apl ls f t (rmd (mapB oth) ls k f c t d)) (f + q)).size = (lineAt ls (f + q)).size := fun q hq => by
    rw [apl_at hq ht hY, rmd_at _ q hq]
    exact (rline_back k f c t d (f + q) (lineAt ls (f + q)) (cols_in R q)).1
  refine ⟨hft, by rw [apl_len hft ht hY]; exact ht, R.one, R.blk, fun hk => ?_, R.small⟩
  have h0 := hz 0 (by omega)
  have h1 := hz (t - f) (by omega)
  rw [Nat.add_zero] at h0
  rw [show f + (t - f) = t by omega] at h1
  rw [h0, h1]
  exact R.pl hk
theorem apl_mem {ls : List ByteArray} {k f c t d B : Nat} (R : Rs ls k f c t d) (h : ∀ s ∈ ls, s.size ≤ B) : ∀ s ∈ apl ls f t (rmd (mapB oth) ls k f c t d), s.size ≤ B := by
  have hft := R.ft
  have ht := R.tn
  intro s hs
  unfold apl at hs
  rw [List.mem_append, List.mem_append] at hs
  rcases hs with (hs | hs) | hs
  · exact h s (List.mem_of_mem_take hs)
  · obtain ⟨q, hq, rfl⟩ := List.mem_iff_getElem.1 hs
    have hq' := hq
    rw [rmd_length] at hq'
    rw [← lineAt_get hq, rmd_at _ q (by omega), (rline_back k f c t d (f + q) (lineAt ls (f + q)) (cols_in R q)).1, lineAt_get (by omega)]
    exact h _ (List.getElem_mem _)
  · exact h s (List.mem_of_mem_drop hs)
end Go.Proofs.Ytkddnknjjdenhaa.Ed
