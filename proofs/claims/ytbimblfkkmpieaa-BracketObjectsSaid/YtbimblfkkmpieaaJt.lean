/-
  Package pair, told by lists: a text's bytes, ahead of a place and behind it; the first bracket of a line; the answers.
-/
import Derived.Test.YtbimblfkkmpieaaJl
set_option linter.unusedVariables false
set_option linter.unusedSimpArgs false
set_option maxRecDepth 100000
namespace Go.Proofs.Ytbimblfkkmpieaa.Pr
open Go Go.RowKit Go.Proofs.Ytbimblfkkmpieaa.Vk Go.Proofs.Ytbimblfkkmpieaa.Str Go.Proofs.Ytbimblfkkmpieaa.Ln Go.Proofs.Ytbimblfkkmpieaa.Cl Go.Proofs.Ytbimblfkkmpieaa.Mv Go.Proofs.Ytbimblfkkmpieaa.Wd

/-- All bytes of a text, with their places. -/
def Cs (ls : List ByteArray) : List Cell := So.cells (So.enr ls 0 ls.length)
/-- Those ahead of a place; those from it on. -/
def bfr (ls : List ByteArray) (i k : Nat) : List Cell := So.cells (So.enr ls 0 i) ++ (So.lcell (i, lineAt ls i)).take k
def afr (ls : List ByteArray) (i k : Nat) : List Cell := So.rst ls ls.length i k
def bt (s : ByteArray) (j : Nat) : Nat := (s.data.toList.getD j 0).toNat
theorem bt_at (s : ByteArray) (j : Nat) (h : j < s.size) : (s[j]'h).toNat = bt s j := by
  unfold bt
  have : s.data.toList.getD j 0 = s[j]'h := by
    rw [List.getD_eq_getElem?_getD, List.getElem?_eq_getElem (by rw [size_str]; exact h)]; rfl
  rw [this]
theorem bt_lt (s : ByteArray) (j : Nat) : bt s j < 256 := by unfold bt; exact UInt8.toNat_lt _

section
variable {ls : List ByteArray} {i k : Nat}
theorem enr_split (ls : List ByteArray) (i m : Nat) : So.enr ls 0 (i + m) = So.enr ls 0 i ++ So.enr ls i m := by
  unfold So.enr
  rw [List.range_add, List.map_append]
  simp
theorem Cs_cut (hi : i < ls.length) (hk : k ≤ (lineAt ls i).size) : Cs ls = bfr ls i k ++ afr ls i k := by
  unfold Cs bfr afr
  rw [So.rst_head ls _ i k hi hk]
  have h1 := enr_split ls i (ls.length - i)
  rw [show i + (ls.length - i) = ls.length by omega, So.enr_head ls _ i hi] at h1
  rw [h1]
  unfold So.rst So.cells
  rw [List.flatMap_append, List.flatMap_cons, List.drop_zero]
  rw [List.append_assoc, ← List.append_assoc (List.take _ _), List.take_append_drop]
theorem bfr_succ (hk : k < (lineAt ls i).size) : bfr ls i (k + 1) = bfr ls i k ++ [((i, k), (lineAt ls i)[k])] := by
  unfold bfr
  have hl : k < (So.lcell (i, lineAt ls i)).length := by rw [So.lcell_length]; exact hk
  have hx := So.lcell_get i (lineAt ls i) k hk
  rw [List.getElem?_eq_getElem hl] at hx
  rw [List.take_succ_eq_append_getElem hl, Option.some.inj hx, List.append_assoc]
theorem bfr_line : bfr ls (i + 1) 0 = bfr ls i (lineAt ls i).size := by
  unfold bfr
  rw [enr_split ls i 1, List.take_zero, List.append_nil]
  have : (lineAt ls i).size = (So.lcell (i, lineAt ls i)).length := (So.lcell_length (i, lineAt ls i)).symm
  rw [this, List.take_length]
  unfold So.cells
  rw [List.flatMap_append]
  congr 1
  simp [So.enr]
theorem bfr_zero : bfr ls 0 0 = [] := by unfold bfr; simp [So.enr, So.cells]
theorem afr_at (hi : i < ls.length) (hk : k < (lineAt ls i).size) : afr ls i k = ((i, k), (lineAt ls i)[k]) :: afr ls i (k + 1) := So.rst_at ls _ i k hi hk
theorem afr_line (hi : i < ls.length) (hk : k = (lineAt ls i).size) : afr ls i k = afr ls (i + 1) 0 := So.rst_line ls _ i k hi hk
theorem afr_end : afr ls ls.length k = [] := So.rst_end ls _ k
theorem Cs_at (hi : i < ls.length) (hk : k < (lineAt ls i).size) : Cs ls = bfr ls i k ++ ((i, k), (lineAt ls i)[k]) :: afr ls i (k + 1) := by
  rw [Cs_cut hi (Nat.le_of_lt hk), afr_at hi hk]
theorem lcell_mem {x : Nat × ByteArray} {c : Cell} (h : c ∈ So.lcell x) : c.1.1 = x.1 ∧ c.1.2 < x.2.size ∧ c.2 = x.2.data.toList.getD c.1.2 0 := by
  unfold So.lcell at h
  obtain ⟨j, hj, rfl⟩ := List.mem_map.1 h
  exact ⟨rfl, List.mem_range.1 hj, rfl⟩
theorem Cs_mem {c : Cell} (h : c ∈ Cs ls) : c.1.1 < ls.length ∧ c.1.2 < (lineAt ls c.1.1).size ∧ c.2.toNat = bt (lineAt ls c.1.1) c.1.2 := by
  unfold Cs So.cells at h
  obtain ⟨x, hx, hc⟩ := List.mem_flatMap.1 h
  unfold So.enr at hx
  obtain ⟨j, hj, rfl⟩ := List.mem_map.1 hx
  obtain ⟨h1, h2, h3⟩ := lcell_mem hc
  simp only [Nat.zero_add] at h1 h2 h3
  rw [h1]
  exact ⟨List.mem_range.1 hj, h2, by rw [h3]; rfl⟩
theorem cells_sorted (m : Nat) : ∀ f, Srt (So.cells (So.enr ls f m)) := by
  induction m with
  | zero => intro f; simp [So.enr, So.cells, Srt]
  | succ m ih =>
    intro f
    have h1 : So.enr ls f (m + 1) = (f, lineAt ls f) :: So.enr ls (f + 1) m := by
      unfold So.enr
      rw [List.range_succ_eq_map, List.map_cons, List.map_map, Nat.add_zero]
      congr 1
      apply List.map_congr_left
      intro k _
      simp only [Function.comp]
      rw [show f + k.succ = f + 1 + k by omega]
    unfold Srt So.cells
    rw [h1, List.flatMap_cons]
    refine List.pairwise_append.2 ⟨?_, ih (f + 1), ?_⟩
    · unfold So.lcell
      rw [List.pairwise_map]
      refine List.Pairwise.imp ?_ (List.pairwise_lt_range)
      intro a b h
      exact lp_iff.2 (.inr ⟨rfl, h⟩)
    · intro a ha b hb
      obtain ⟨x, hx, hc⟩ := List.mem_flatMap.1 hb
      unfold So.enr at hx
      obtain ⟨j, hj, rfl⟩ := List.mem_map.1 hx
      have g1 := (lcell_mem ha).1
      have g2 := (lcell_mem hc).1
      exact lp_iff.2 (.inl (by rw [g1, g2]; simp only; omega))
theorem Cs_sorted (ls : List ByteArray) : Srt (Cs ls) := cells_sorted _ 0
theorem cut_one {A A' B B' : List Cell} {x x' : Cell} (h : Srt (A ++ x :: B)) (he : A ++ x :: B = A' ++ x' :: B') (hx : x.1 = x'.1) : A = A' ∧ x = x' ∧ B = B' := by
  induction A generalizing A' with
  | nil =>
    cases A' with
    | nil => simp only [List.nil_append, List.cons.injEq] at he; exact ⟨rfl, he.1, he.2⟩
    | cons a A' =>
      simp only [List.nil_append, List.cons_append, List.cons.injEq] at he
      have h1 := (List.pairwise_cons.1 h).1 x' (by rw [he.2]; simp)
      rw [hx, lp_irr] at h1; cases h1
  | cons a A ih =>
    cases A' with
    | nil =>
      simp only [List.nil_append, List.cons_append, List.cons.injEq] at he
      have h1 := (List.pairwise_cons.1 h).1 x (by simp)
      rw [he.1, hx, lp_irr] at h1; cases h1
    | cons a' A' =>
      simp only [List.cons_append, List.cons.injEq] at he
      obtain ⟨h1, h2, h3⟩ := ih (List.pairwise_cons.1 h).2 he.2
      exact ⟨by rw [he.1, h1], h2, h3⟩
/-- What comes behind a byte, one way or the other. -/
def nx (ls : List ByteArray) (back : Bool) (i k : Nat) : List Cell := if back = true then (bfr ls i k).reverse else afr ls i (k + 1)
theorem nx_next {back : Bool} {x : Cell} {r : List Cell} (hi : i < ls.length) (hk : k < (lineAt ls i).size) (h : nx ls back i k = x :: r) :
    x.1.1 < ls.length ∧ x.1.2 < (lineAt ls x.1.1).size ∧ x.2.toNat = bt (lineAt ls x.1.1) x.1.2 ∧ r = nx ls back x.1.1 x.1.2 := by
  have hC := Cs_at hi hk
  have hS := Cs_sorted ls
  obtain ⟨⟨a, c⟩, b⟩ := x
  cases back with
  | false =>
    have h0 : afr ls i (k + 1) = ((a, c), b) :: r := h
    rw [h0] at hC
    have hC' : Cs ls = (bfr ls i k ++ [((i, k), (lineAt ls i)[k])]) ++ ((a, c), b) :: r := by rw [hC]; simp
    obtain ⟨m1, m2, m3⟩ := Cs_mem (c := ((a, c), b)) (ls := ls) (by rw [hC']; simp)
    have hD := Cs_at m1 m2
    obtain ⟨_, _, h3⟩ := cut_one (by rw [← hC']; exact hS) (hC'.symm.trans hD) rfl
    exact ⟨m1, m2, m3, h3⟩
  | true =>
    have h0 : (bfr ls i k).reverse = ((a, c), b) :: r := h
    have h0' : bfr ls i k = r.reverse ++ [((a, c), b)] := by
      have := congrArg List.reverse h0
      rw [List.reverse_reverse] at this
      rw [this]; simp
    have hC' : Cs ls = r.reverse ++ ((a, c), b) :: (((i, k), (lineAt ls i)[k]) :: afr ls i (k + 1)) := by rw [hC, h0']; simp
    obtain ⟨m1, m2, m3⟩ := Cs_mem (c := ((a, c), b)) (ls := ls) (by rw [hC']; simp)
    have hD := Cs_at m1 m2
    obtain ⟨h3, _, _⟩ := cut_one (by rw [← hC']; exact hS) (hC'.symm.trans hD) rfl
    refine ⟨m1, m2, m3, ?_⟩
    show r = (bfr ls a c).reverse
    rw [← h3, List.reverse_reverse]
/-- The pairs of a kind. -/
def P (ls : List ByteArray) (b : Nat) : List PP := prs (kO b) (kS b) [] (Cs ls)
/-- What the document finds is the pair's other bracket. -/
theorem other_ptn (hi : i < ls.length) (hk : k < (lineAt ls i).size) {b : Nat} (hb : bt (lineAt ls i) k = b) (hI : kI b = true) :
    fwI (kO b) (kS b) 0 (((i, k), (lineAt ls i)[k]) :: nx ls (!kB b) i k) = ptn (i, k) (P ls b) := by
  obtain ⟨hne, hor, _⟩ := kI_facts hI
  have hC := Cs_at hi hk
  have hS := Cs_sorted ls
  have hbb := (bt_at _ _ hk).trans hb
  unfold P
  rw [hC] at hS ⊢
  rcases hor with ⟨h1, h2⟩ | ⟨h1, h2⟩
  · rw [h1] at hbb
    rw [ptn_fwd hS hbb, fwI_at (nz_o hbb), if_neg (by omega), h2]
    exact fwI_pos _ 1 (Nat.le_refl _)
  · rw [h1] at hbb
    rw [ptn_bwd hne hS hbb, fwI_at (nz_s (by omega) hbb), if_neg (by omega), h2]
    exact fwI_neg hne _ 1 (Nat.le_refl _)
end

/-- The first bracket of a line from a column on. -/
def fbr (s : ByteArray) (k : Nat) : Option Nat := ((s.data.toList.drop k).findIdx? fun b => kI b.toNat).map (k + ·)
theorem fbr_at {s : ByteArray} {k : Nat} (h : k < s.size) : fbr s k = if kI (bt s k) = true then some k else fbr s (k + 1) := by
  have hl : k < s.data.toList.length := by rw [size_str]; exact h
  have hx : (s.data.toList[k]).toNat = bt s k := by
    unfold bt
    rw [List.getD_eq_getElem?_getD, List.getElem?_eq_getElem hl]; rfl
  unfold fbr
  rw [List.drop_eq_getElem_cons hl, List.findIdx?_cons, hx]
  split
  · rfl
  · rw [Option.map_map]
    congr 1
    funext j
    simp only [Function.comp]
    omega
theorem fbr_yes {s : ByteArray} {k : Nat} (h : k < s.size) (hb : kI (bt s k) = true) : fbr s k = some k := by rw [fbr_at h, if_pos hb]
theorem fbr_no {s : ByteArray} {k : Nat} (h : k < s.size) (hb : kI (bt s k) = false) : fbr s k = fbr s (k + 1) := by rw [fbr_at h, if_neg (by rw [hb]; simp)]
theorem fbr_end {s : ByteArray} {k : Nat} (h : s.size ≤ k) : fbr s k = none := by
  unfold fbr
  rw [List.drop_eq_nil_of_le (by rw [size_str]; exact h)]; rfl
theorem fbr_some {s : ByteArray} : ∀ (m k j : Nat), s.size - k ≤ m → fbr s k = some j → j < s.size ∧ kI (bt s j) = true
  | 0, k, j, hm, h => by rw [fbr_end (by omega)] at h; cases h
  | m + 1, k, j, hm, h => by
    by_cases hk : k < s.size
    · rw [fbr_at hk] at h
      split at h
      · injection h with h
        subst h
        exact ⟨hk, by assumption⟩
      · exact fbr_some m (k + 1) j (by omega) h
    · rw [fbr_end (by omega)] at h; cases h

/-- What Match answers. -/
def mtc (ls : List ByteArray) (i k : Nat) : Option P2 := (fbr (lineAt ls i) k).bind fun j => ptn (i, j) (P ls (bt (lineAt ls i) j))
def mtR (ls : List ByteArray) (l c : Int) : R := if Plc ls l c then (match mtc ls l.toNat c.toNat with | some q => ⟨q.1, q.2, 1, true, -1, true⟩ | none => R.no) else R.no
/-- What Enclosing answers. -/
def enL (ls : List ByteArray) (l c : Int) (b : Nat) : List PP := enc (l.toNat, c.toNat) (P ls b)
def enV (ls : List ByteArray) (l c : Int) (b : Nat) (n : Int) : Option PP := if (Plc ls l c ∧ 1 ≤ n) ∧ kB b = true then (enL ls l c b)[n.toNat - 1]? else none
theorem prs_length (o s : Nat) (A : List Cell) : ∀ st, (prs o s st A).length ≤ A.length := by
  induction A with
  | nil => intro st; simp [prs]
  | cons c r ih =>
    obtain ⟨p, b⟩ := c
    intro st
    simp only [prs, List.length_cons]
    split
    · have := ih (p :: st); omega
    · split
      · cases st with
        | nil => have := ih []; simp only; omega
        | cons q st' => have := ih st'; simp only [List.length_cons]; omega
      · have := ih st; omega
theorem Cs_length (ls : List ByteArray) : (Cs ls).length ≤ tz ls := by
  have := So.all_length ls
  unfold Cs
  omega
theorem enL_length (ls : List ByteArray) (l c : Int) (b : Nat) : (enL ls l c b).length ≤ tz ls := by
  have h1 := prs_length (kO b) (kS b) (Cs ls) []
  have h2 := Cs_length ls
  have h3 := List.length_filter_le (eb (l.toNat, c.toNat)) (prs (kO b) (kS b) [] (Cs ls))
  unfold enL enc P
  omega
end Go.Proofs.Ytbimblfkkmpieaa.Pr
