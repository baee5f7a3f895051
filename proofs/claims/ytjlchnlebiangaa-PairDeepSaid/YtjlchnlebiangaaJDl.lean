/-
  Package pair, told by lists: brackets in one another.
-/
import Derived.Test.YtjlchnlebiangaaJBl
set_option linter.unusedVariables false
set_option linter.unusedSimpArgs false
set_option maxRecDepth 100000
namespace Go.Proofs.Ytjlchnlebiangaa.Pr
open Go Go.RowKit Go.Proofs.Ytjlchnlebiangaa.Vk Go.Proofs.Ytjlchnlebiangaa.Str Go.Proofs.Ytjlchnlebiangaa.Ln Go.Proofs.Ytjlchnlebiangaa.Cl Go.Proofs.Ytjlchnlebiangaa.Mv Go.Proofs.Ytjlchnlebiangaa.Wd

/-- The brackets of a kind of three. -/
def opB (k : Nat) : UInt8 := if k = 0 then 40 else if k = 1 then 91 else 123
def shB (k : Nat) : UInt8 := if k = 0 then 41 else if k = 1 then 93 else 125
def mkS (l : List Nat) : ByteArray := ⟨(l.map opB).toArray⟩
def mkT (l : List Nat) : ByteArray := ⟨((l.map shB).reverse).toArray⟩
theorem mkS_size (l : List Nat) : (mkS l).size = l.length := by simp [mkS, ByteArray.size]
theorem mkT_size (l : List Nat) : (mkT l).size = l.length := by simp [mkT, ByteArray.size]
theorem mkS_at {l : List Nat} {j : Nat} (h : j < l.length) : bt (mkS l) j = (opB (l[j])).toNat := by
  unfold bt mkS
  rw [List.getD_eq_getElem?_getD, List.toList_toArray, List.getElem?_map, List.getElem?_eq_getElem h]; rfl
theorem mkT_at {l : List Nat} {j : Nat} (h : j < l.length) : bt (mkT l) j = (shB (l[l.length - 1 - j]'(by omega))).toNat := by
  unfold bt mkT
  have hl : j < ((l.map shB).reverse).length := by simpa using h
  rw [List.getD_eq_getElem?_getD, List.toList_toArray, List.getElem?_eq_getElem hl, List.getElem_reverse, List.getElem_map]
  simp
theorem kinds3 {k : Nat} (h : k < 3) : kI (opB k).toNat = true ∧ kB (opB k).toNat = true ∧ kO (opB k).toNat = (opB k).toNat ∧ kS (opB k).toNat = (shB k).toNat := by
  obtain rfl | rfl | rfl : k = 0 ∨ k = 1 ∨ k = 2 := by omega
  all_goals decide
theorem apart3 {k q : Nat} (h : k < 3) (h2 : q < 3) : ((opB k).toNat = (opB q).toNat ↔ k = q) ∧ ((shB k).toNat = (shB q).toNat ↔ k = q) ∧ (opB k).toNat ≠ (shB q).toNat ∧ (shB k).toNat ≠ (opB q).toNat ∧ (opB k).toNat ≠ 120 ∧ (shB k).toNat ≠ 120 := by
  obtain rfl | rfl | rfl : k = 0 ∨ k = 1 ∨ k = 2 := by omega
  all_goals
    obtain rfl | rfl | rfl : q = 0 ∨ q = 1 ∨ q = 2 := by omega
    all_goals decide

section
variable {l : List Nat}
abbrev dls (l : List Nat) : List ByteArray := [mkS l, ⟨#[120]⟩, mkT l]
/-- The brackets of a kind, of the first m lines' bytes, the last one first; the pairs of a kind within the first j shutting ones. -/
def D (l : List Nat) (κ m : Nat) : List P2 := (((List.range m).filter fun k => l.getD k 3 == κ).reverse).map fun k => (0, k)
def Ep (l : List Nat) (κ j : Nat) : List PP := ((List.range j).filter fun q => l.getD (l.length - 1 - q) 3 == κ).map fun q => ((0, l.length - 1 - q), (2, q))
theorem D_yes {κ m : Nat} (h : l.getD m 3 = κ) : D l κ (m + 1) = (0, m) :: D l κ m := by
  unfold D; rw [List.range_succ, List.filter_append, List.filter_cons_of_pos (by rw [h]; exact beq_self_eq_true _)]; simp
theorem D_no {κ m : Nat} (h : l.getD m 3 ≠ κ) : D l κ (m + 1) = D l κ m := by
  unfold D; rw [List.range_succ, List.filter_append, List.filter_cons_of_neg (by rw [beq_iff_eq]; exact h)]; simp
theorem Ep_yes {κ j : Nat} (h : l.getD (l.length - 1 - j) 3 = κ) : Ep l κ (j + 1) = Ep l κ j ++ [((0, l.length - 1 - j), (2, j))] := by
  unfold Ep; rw [List.range_succ, List.filter_append, List.filter_cons_of_pos (by rw [h]; exact beq_self_eq_true _)]; simp
theorem Ep_no {κ j : Nat} (h : l.getD (l.length - 1 - j) 3 ≠ κ) : Ep l κ (j + 1) = Ep l κ j := by
  unfold Ep; rw [List.range_succ, List.filter_append, List.filter_cons_of_neg (by rw [beq_iff_eq]; exact h)]; simp
theorem Ep_cut {κ j : Nat} (hj : j < l.length) (h : l.getD (l.length - 1 - j) 3 = κ) : ∃ r, Ep l κ l.length = Ep l κ j ++ ((0, l.length - 1 - j), (2, j)) :: r := by
  obtain ⟨d, hd⟩ : ∃ d, l.length = j + 1 + d := ⟨l.length - (j + 1), by omega⟩
  have h1 := Ep_yes h
  refine ⟨(((List.range d).map (j + 1 + ·)).filter fun q => l.getD (l.length - 1 - q) 3 == κ).map fun q => ((0, l.length - 1 - q), (2, q)), ?_⟩
  have h2 : Ep l κ l.length = Ep l κ (j + 1) ++ (((List.range d).map (j + 1 + ·)).filter fun q => l.getD (l.length - 1 - q) 3 == κ).map fun q => ((0, l.length - 1 - q), (2, q)) := by
    conv => lhs; unfold Ep; rw [show List.range l.length = List.range (j + 1) ++ (List.range d).map (j + 1 + ·) by rw [hd, List.range_add]]
    rw [List.filter_append, List.map_append]; rfl
  rw [h2, h1]; simp
theorem getD_lt {k : Nat} (h : k < l.length) : l.getD k 3 = l[k] := by rw [List.getD_eq_getElem?_getD, List.getElem?_eq_getElem h]; rfl
theorem dl0 : lineAt (dls l) 0 = mkS l := rfl
theorem dl1 : lineAt (dls l) 1 = ⟨#[120]⟩ := rfl
theorem dl2 : lineAt (dls l) 2 = mkT l := rfl
theorem deep_open (hl : ∀ k ∈ l, k < 3) {κ : Nat} (hκ : κ < 3) : ∀ m, m ≤ l.length → prs (opB κ).toNat (shB κ).toNat [] (bfr (dls l) 0 m) = [] ∧ stk (opB κ).toNat (shB κ).toNat [] (bfr (dls l) 0 m) = D l κ m
  | 0, _ => by rw [bfr_zero]; simp [prs, stk, D]
  | m + 1, hm => by
    obtain ⟨h1, h2⟩ := deep_open hl hκ m (by omega)
    have hmz : m < (lineAt (dls l) 0).size := by rw [dl0, mkS_size]; omega
    have hb : ((lineAt (dls l) 0)[m]'hmz).toNat = (opB l[m]).toNat := by rw [bt_at, dl0, mkS_at (by omega)]
    have hk := hl _ (List.getElem_mem (l := l) (n := m) (by omega))
    rw [bfr_succ hmz]
    have ha := apart3 hk hκ
    by_cases he : l[m] = κ
    · obtain ⟨g1, g2⟩ := snoc_open (o := (opB κ).toNat) (s := (shB κ).toNat) (pre := bfr (dls l) 0 m) (p := (0, m)) (hb.trans (ha.1.2 he))
      rw [g1, g2, h1, h2, D_yes (by rw [getD_lt (by omega)]; exact he)]
      exact ⟨rfl, rfl⟩
    · obtain ⟨g1, g2⟩ := snoc_other (o := (opB κ).toNat) (s := (shB κ).toNat) (pre := bfr (dls l) 0 m) (p := (0, m)) (b := (lineAt (dls l) 0)[m]'hmz) (by rw [hb]; exact fun e => he (ha.1.1 e)) (by rw [hb]; exact ha.2.2.1)
      rw [g1, g2, h1, h2, D_no (by rw [getD_lt (by omega)]; exact he)]
      exact ⟨rfl, rfl⟩
theorem deep_mid (hl : ∀ k ∈ l, k < 3) {κ : Nat} (hκ : κ < 3) : prs (opB κ).toNat (shB κ).toNat [] (bfr (dls l) 2 0) = [] ∧ stk (opB κ).toNat (shB κ).toNat [] (bfr (dls l) 2 0) = D l κ l.length := by
  obtain ⟨h1, h2⟩ := deep_open hl hκ l.length (Nat.le_refl _)
  have e1 : bfr (dls l) 1 0 = bfr (dls l) 0 l.length := by rw [show (1 : Nat) = 0 + 1 from rfl, bfr_line, dl0, mkS_size]
  have e2 : bfr (dls l) 2 0 = bfr (dls l) 0 l.length ++ [((1, 0), 120)] := by
    rw [show (2 : Nat) = 1 + 1 from rfl, bfr_line, ← e1]
    have : (0 : Nat) < (lineAt (dls l) 1).size := by rw [dl1]; decide
    exact bfr_succ (ls := dls l) (i := 1) (k := 0) this
  rw [e2]
  have ha := apart3 hκ hκ
  obtain ⟨g1, g2⟩ := snoc_other (o := (opB κ).toNat) (s := (shB κ).toNat) (pre := bfr (dls l) 0 l.length) (p := (1, 0)) (b := 120) (fun e => ha.2.2.2.2.1 e.symm) (fun e => ha.2.2.2.2.2 e.symm)
  rw [g1, g2, h1, h2]
  exact ⟨rfl, rfl⟩
theorem deep_shut (hl : ∀ k ∈ l, k < 3) {κ : Nat} (hκ : κ < 3) : ∀ j, j ≤ l.length → prs (opB κ).toNat (shB κ).toNat [] (bfr (dls l) 2 j) = Ep l κ j ∧ stk (opB κ).toNat (shB κ).toNat [] (bfr (dls l) 2 j) = D l κ (l.length - j)
  | 0, _ => by
    obtain ⟨h1, h2⟩ := deep_mid hl hκ
    rw [h1, h2]
    exact ⟨by simp [Ep], rfl⟩
  | j + 1, hj => by
    obtain ⟨h1, h2⟩ := deep_shut hl hκ j (by omega)
    have hjz : j < (lineAt (dls l) 2).size := by rw [dl2, mkT_size]; omega
    have hb : ((lineAt (dls l) 2)[j]'hjz).toNat = (shB (l[l.length - 1 - j]'(by omega))).toNat := by rw [bt_at, dl2, mkT_at (by omega)]
    have hk := hl _ (List.getElem_mem (l := l) (n := l.length - 1 - j) (by omega))
    rw [bfr_succ hjz]
    have ha := apart3 hk hκ
    have hlj : l.length - j = (l.length - (j + 1)) + 1 := by omega
    have hlk : l.length - 1 - j = l.length - (j + 1) := by omega
    have hno := (apart3 hk hκ).2.2.2.1
    by_cases he : l[l.length - 1 - j]'(by omega) = κ
    · have hD : D l κ (l.length - j) = (0, l.length - (j + 1)) :: D l κ (l.length - (j + 1)) := by
        rw [hlj]; exact D_yes (by rw [← hlk, getD_lt (by omega)]; exact he)
      obtain ⟨g1, g2⟩ := snoc_pair (o := (opB κ).toNat) (s := (shB κ).toNat) (pre := bfr (dls l) 2 j) (p := (2, j)) (b := (lineAt (dls l) 2)[j]'hjz) (by rw [hb]; exact hno) (hb.trans (ha.2.1.2 he)) (h2.trans hD)
      rw [g1, g2, h1, Ep_yes (by rw [getD_lt (by omega)]; exact he), hlk]
      exact ⟨rfl, rfl⟩
    · have hD : D l κ (l.length - j) = D l κ (l.length - (j + 1)) := by
        rw [hlj]; exact D_no (by rw [← hlk, getD_lt (by omega)]; exact he)
      obtain ⟨g1, g2⟩ := snoc_other (o := (opB κ).toNat) (s := (shB κ).toNat) (pre := bfr (dls l) 2 j) (p := (2, j)) (b := (lineAt (dls l) 2)[j]'hjz) (by rw [hb]; exact hno) (by rw [hb]; exact fun e => he (ha.2.1.1 e))
      rw [g1, g2, h1, h2, hD, Ep_no (by rw [getD_lt (by omega)]; exact he)]
      exact ⟨rfl, rfl⟩
theorem deep_P (hl : ∀ k ∈ l, k < 3) {κ : Nat} (hκ : κ < 3) : P (dls l) (opB κ).toNat = Ep l κ l.length := by
  obtain ⟨_, _, h1, h2⟩ := kinds3 hκ
  have hC := Cs_cut (ls := dls l) (i := 2) (k := l.length) (by simp) (by rw [dl2, mkT_size]; exact Nat.le_refl _)
  have he : afr (dls l) 2 l.length = [] := by
    rw [afr_line (ls := dls l) (i := 2) (by simp) (by rw [dl2, mkT_size])]
    exact afr_end (ls := dls l)
  rw [he, List.append_nil] at hC
  unfold P
  rw [h1, h2, hC]
  exact (deep_shut hl hκ l.length (Nat.le_refl _)).1
theorem deep_mtc (hl : ∀ k ∈ l, k < 3) {i : Nat} (hi : i < l.length) : mtc (dls l) 0 i = some (2, l.length - 1 - i) := by
  have hk := hl _ (List.getElem_mem (l := l) (n := i) hi)
  have hz : i < (lineAt (dls l) 0).size := by rw [dl0, mkS_size]; exact hi
  have hb : bt (lineAt (dls l) 0) i = (opB l[i]).toNat := by rw [dl0, mkS_at hi]
  rw [mtc_at hz (by rw [hb]; exact (kinds3 hk).1), hb]
  have hm := prs_mem (o := kO (opB l[i]).toNat) (s := kS (opB l[i]).toNat) (Cs (dls l)) [] (Cs_sorted _) (by simp)
  have hr := prs_rel (o := kO (opB l[i]).toNat) (s := kS (opB l[i]).toNat) (Cs (dls l)) [] (Cs_sorted _) List.Pairwise.nil (by simp)
  have hmem : ((0, i), (2, l.length - 1 - i)) ∈ P (dls l) (opB l[i]).toNat := by
    rw [deep_P hl hk]
    obtain ⟨r, hr⟩ := Ep_cut (l := l) (κ := l[i]) (j := l.length - 1 - i) (by omega) (by rw [show l.length - 1 - (l.length - 1 - i) = i by omega, getD_lt hi])
    rw [hr, show l.length - 1 - (l.length - 1 - i) = i by omega]
    simp
  exact (ptn_one hr (fun y hy => (hm y hy).1) hmem).1
theorem deep_enL (hl : ∀ k ∈ l, k < 3) {κ : Nat} (hκ : κ < 3) : enL (dls l) 1 0 (opB κ).toNat = Ep l κ l.length := by
  unfold enL
  rw [deep_P hl hκ]
  refine List.filter_eq_self.2 fun x hx => ?_
  unfold Ep at hx
  obtain ⟨q, _, rfl⟩ := List.mem_map.1 hx
  unfold eb
  rw [lp_false.2 (by simp), lp_false.2 (by simp)]
  rfl
theorem deep_at (hl : ∀ k ∈ l, k < 3) {κ j : Nat} (hκ : κ < 3) (hj : j < l.length) (h : l.getD (l.length - 1 - j) 3 = κ) : enV (dls l) 1 0 (opB κ).toNat (((Ep l κ j).length + 1 : Nat) : Int) = some ((0, l.length - 1 - j), (2, j)) := by
  have hp : (Plc (dls l) 1 0 ∧ (1 : Int) ≤ (((Ep l κ j).length + 1 : Nat) : Int)) ∧ kB (opB κ).toNat = true := ⟨⟨⟨by omega, by simp, by omega, by simp⟩, by omega⟩, (kinds3 hκ).2.1⟩
  unfold enV
  rw [if_pos hp, deep_enL hl hκ, Int.toNat_natCast]
  obtain ⟨r, hr⟩ := Ep_cut hj h
  rw [hr, Nat.add_sub_cancel, List.getElem?_append_right (Nat.le_refl _), Nat.sub_self]
  rfl
theorem deep_end (hl : ∀ k ∈ l, k < 3) {κ : Nat} (hκ : κ < 3) : enV (dls l) 1 0 (opB κ).toNat (((Ep l κ l.length).length + 1 : Nat) : Int) = none := by
  have hp : (Plc (dls l) 1 0 ∧ (1 : Int) ≤ (((Ep l κ l.length).length + 1 : Nat) : Int)) ∧ kB (opB κ).toNat = true := ⟨⟨⟨by omega, by simp, by omega, by simp⟩, by omega⟩, (kinds3 hκ).2.1⟩
  unfold enV
  rw [if_pos hp, deep_enL hl hκ, Int.toNat_natCast, Nat.add_sub_cancel, List.getElem?_eq_none (Nat.le_refl _)]
theorem Ep_length (κ j : Nat) : (Ep l κ j).length ≤ j := by
  unfold Ep
  rw [List.length_map]
  exact Nat.le_trans (List.length_filter_le _ _) (by simp)
end
end Go.Proofs.Ytjlchnlebiangaa.Pr
