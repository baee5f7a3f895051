/-
  What is set under names, in the order of the names, as a list; the registers of the chapter told by such lists. No program in sight.
-/
import Derived.Test.YtgfajagajiofnaaLn
set_option linter.unusedVariables false
set_option linter.unusedSimpArgs false
set_option maxRecDepth 100000
namespace Go.Proofs.Ytgfajagajiofnaa.Rl
open Go.Proofs.Ytgfajagajiofnaa.Ln
variable {α : Type}
abbrev ML (α : Type) := List (Nat × α)
def lk : ML α → Nat → Option α
  | [], _ => none
  | x :: L, c => if x.1 = c then some x.2 else lk L c
def Srt (L : ML α) : Prop := L.Pairwise fun a b => a.1 < b.1
def ins : ML α → Nat → α → ML α
  | [], c, p => [(c, p)]
  | x :: L, c, p => if x.1 < c then x :: ins L c p else if x.1 = c then (c, p) :: L else (c, p) :: x :: L

theorem look_none {L : ML α} {c : Nat} (h : ∀ x ∈ L, x.1 ≠ c) : lk L c = none := by
  induction L with
  | nil => rfl
  | cons x L ih =>
    unfold lk
    rw [if_neg (h x List.mem_cons_self)]
    exact ih fun y hy => h y (List.mem_cons_of_mem _ hy)
theorem look_mem {L : ML α} {c : Nat} {p : α} (h : lk L c = some p) : (c, p) ∈ L := by
  induction L with
  | nil => cases h
  | cons x L ih =>
    unfold lk at h
    split at h
    · rename_i hx
      cases h
      subst hx
      exact List.mem_cons_self
    · exact List.mem_cons_of_mem _ (ih h)
theorem look_some {L : ML α} (hs : Srt L) {x : Nat × α} (h : x ∈ L) : lk L x.1 = some x.2 := by
  induction L with
  | nil => cases h
  | cons y L ih =>
    obtain ⟨h1, h2⟩ := List.pairwise_cons.1 hs
    unfold lk
    rcases List.mem_cons.1 h with rfl | h
    · rw [if_pos rfl]
    · rw [if_neg (by have := h1 x h; omega)]
      exact ih h2 h
theorem look_eq {x : Nat × α} {L : ML α} {c : Nat} (h : x.1 = c) : lk (x :: L) c = some x.2 := if_pos h
theorem look_ne {x : Nat × α} {L : ML α} {c : Nat} (h : x.1 ≠ c) : lk (x :: L) c = lk L c := if_neg h
theorem look_app (A B : ML α) (c : Nat) : lk (A ++ B) c = (lk A c).orElse fun _ => lk B c := by
  induction A with
  | nil => rfl
  | cons x A ih =>
    rw [List.cons_append]
    by_cases h : x.1 = c
    · rw [look_eq h, look_eq h]; rfl
    · rw [look_ne h, look_ne h]; exact ih
theorem look_ins (L : ML α) (c : Nat) (p : α) (d : Nat) : lk (ins L c p) d = if d = c then some p else lk L d := by
  induction L with
  | nil =>
    simp only [ins, lk]
    by_cases h : d = c
    · rw [if_pos h.symm, if_pos h]
    · rw [if_neg (Ne.symm h), if_neg h]
  | cons x L ih =>
    unfold ins
    split
    · rename_i hx
      simp only [lk]
      by_cases h : d = c
      · rw [if_neg (by omega), ih, if_pos h, if_pos h]
      · rw [ih, if_neg h, if_neg h]
    · split
      · rename_i h1 h2
        simp only [lk]
        by_cases h : d = c
        · rw [if_pos h.symm, if_pos h]
        · rw [if_neg (Ne.symm h), if_neg h, if_neg (by omega)]
      · simp only [lk]
        by_cases h : d = c
        · rw [if_pos h.symm, if_pos h]
        · rw [if_neg (Ne.symm h), if_neg h]
theorem mem_ins {L : ML α} {c : Nat} {p : α} {y : Nat × α} (h : y ∈ ins L c p) : y = (c, p) ∨ y ∈ L := by
  induction L with
  | nil => exact .inl (by simpa [ins] using h)
  | cons x L ih =>
    unfold ins at h
    split at h
    · rcases List.mem_cons.1 h with rfl | h
      · exact .inr List.mem_cons_self
      · exact (ih h).imp id (List.mem_cons_of_mem _)
    · split at h
      · rcases List.mem_cons.1 h with rfl | h
        · exact .inl rfl
        · exact .inr (List.mem_cons_of_mem _ h)
      · rcases List.mem_cons.1 h with rfl | h
        · exact .inl rfl
        · exact .inr h
theorem srt_ins {L : ML α} (h : Srt L) (c : Nat) (p : α) : Srt (ins L c p) := by
  induction L with
  | nil => exact List.pairwise_singleton _ _
  | cons x L ih =>
    obtain ⟨h1, h2⟩ := List.pairwise_cons.1 h
    unfold ins
    split
    · rename_i hx
      refine List.pairwise_cons.2 ⟨fun y hy => ?_, ih h2⟩
      rcases mem_ins hy with rfl | hy
      · exact hx
      · exact h1 y hy
    · split
      · rename_i hx hc
        refine List.pairwise_cons.2 ⟨fun y hy => ?_, h2⟩
        have := h1 y hy
        show c < y.1
        omega
      · rename_i hx hc
        refine List.pairwise_cons.2 ⟨fun y hy => ?_, h⟩
        show c < y.1
        rcases List.mem_cons.1 hy with rfl | hy
        · omega
        · have := h1 y hy; omega
theorem length_ins {L : ML α} (h : Srt L) (c : Nat) (p : α) : (ins L c p).length = L.length + if (lk L c).isSome = true then 0 else 1 := by
  induction L with
  | nil => rfl
  | cons x L ih =>
    obtain ⟨h1, h2⟩ := List.pairwise_cons.1 h
    unfold ins
    by_cases hx : x.1 < c
    · rw [if_pos hx, List.length_cons, ih h2, look_ne (by omega), List.length_cons]
      omega
    · rw [if_neg hx]
      by_cases hc : x.1 = c
      · rw [if_pos hc, look_eq hc]
        rfl
      · rw [if_neg hc, look_ne hc, look_none fun y hy => by have := h1 y hy; omega]
        rfl
/-- Where a name stands, or would stand. -/
theorem ins_at {L : ML α} {c k : Nat} (p : α) (hk : k ≤ L.length) (hb : ∀ j, ∀ h : j < L.length, j < k → L[j].1 < c) :
    (∀ h : k < L.length, L[k].1 = c → ins L c p = L.set k (c, p)) ∧ ((∀ h : k < L.length, c < L[k].1) → ins L c p = L.take k ++ (c, p) :: L.drop k) := by
  induction L generalizing k with
  | nil =>
    obtain rfl : k = 0 := by simpa using hk
    exact ⟨fun h => by simp at h, fun _ => rfl⟩
  | cons x L ih =>
    cases k with
    | zero =>
      refine ⟨fun h hc => ?_, fun hc => ?_⟩
      · have hc' : x.1 = c := hc
        unfold ins
        rw [if_neg (by omega), if_pos hc']
        rfl
      · have hc' : c < x.1 := hc (by simp)
        unfold ins
        rw [if_neg (by omega), if_neg (by omega)]
        rfl
    | succ k =>
      have h0 : x.1 < c := hb 0 (by simp) (by omega)
      obtain ⟨i1, i2⟩ := ih (k := k) (by simpa using hk) fun j h hj => hb (j + 1) (by simpa using h) (by omega)
      unfold ins
      rw [if_pos h0]
      refine ⟨fun h hc => ?_, fun hc => ?_⟩
      · rw [i1 (by simpa using h) hc]
        rfl
      · rw [i2 fun h => hc (by simpa using h)]
        rfl

theorem srt_lt {L : ML α} (h : Srt L) {i j : Nat} (hi : i < j) (hj : j < L.length) : (L[i]'(by omega)).1 < L[j].1 := List.pairwise_iff_getElem.1 h i j (by omega) hj hi
/-- The names, in order. -/
def nms (L : ML α) : List Nat := L.map (·.1)
theorem look_isSome {L : ML α} (hs : Srt L) (c : Nat) : (lk L c).isSome = true ↔ c ∈ nms L := by
  constructor
  · intro h
    obtain ⟨p, hp⟩ := Option.isSome_iff_exists.1 h
    exact List.mem_map.2 ⟨_, look_mem hp, rfl⟩
  · intro h
    obtain ⟨x, hx, rfl⟩ := List.mem_map.1 h
    rw [look_some hs hx]
    rfl
theorem eq_sorted : ∀ {l m : List Nat}, l.Pairwise (· < ·) → m.Pairwise (· < ·) → (∀ x, x ∈ l ↔ x ∈ m) → l = m
  | [], [], _, _, _ => rfl
  | [], b :: m, _, _, h => by have := (h b).2 List.mem_cons_self; cases this
  | a :: l, [], _, _, h => by have := (h a).1 List.mem_cons_self; cases this
  | a :: l, b :: m, hl, hm, h => by
    obtain ⟨h1, h2⟩ := List.pairwise_cons.1 hl
    obtain ⟨h3, h4⟩ := List.pairwise_cons.1 hm
    have hab : a = b := by
      rcases List.mem_cons.1 ((h a).1 List.mem_cons_self) with e | e
      · exact e
      · rcases List.mem_cons.1 ((h b).2 List.mem_cons_self) with e2 | e2
        · exact e2.symm
        · have := h1 b e2; have := h3 a e; omega
    subst hab
    rw [eq_sorted h2 h4 fun x => ⟨fun hx => ?_, fun hx => ?_⟩]
    · rcases List.mem_cons.1 ((h x).1 (List.mem_cons_of_mem _ hx)) with e | e
      · subst e; have := h1 x hx; omega
      · exact e
    · rcases List.mem_cons.1 ((h x).2 (List.mem_cons_of_mem _ hx)) with e | e
      · subst e; have := h3 x hx; omega
      · exact e
theorem srt_nms {L : ML α} (h : Srt L) : (nms L).Pairwise (· < ·) := by
  unfold nms
  rw [List.pairwise_map]
  exact h

theorem length_nms (L : ML α) : (nms L).length = L.length := by simp [nms]
/-- Two sorted lists in which the same is found. -/
theorem ext_srt : ∀ {A B : ML α}, Srt A → Srt B → (∀ c, lk A c = lk B c) → A = B
  | [], [], _, _, _ => rfl
  | [], y :: B, _, _, h => by have := h y.1; rw [look_eq rfl] at this; cases this
  | x :: A, [], _, _, h => by have := h x.1; rw [look_eq rfl] at this; cases this
  | x :: A, y :: B, ha, hb, h => by
    obtain ⟨a1, a2⟩ := List.pairwise_cons.1 ha
    obtain ⟨b1, b2⟩ := List.pairwise_cons.1 hb
    have hxy : x.1 = y.1 := by
      rcases Nat.lt_trichotomy x.1 y.1 with e | e | e
      · have := h x.1
        rw [look_eq rfl, look_none (fun z hz => by rcases List.mem_cons.1 hz with rfl | hz; omega; have := b1 z hz; omega)] at this
        cases this
      · exact e
      · have := h y.1
        rw [look_eq (x := y) rfl, look_none (fun z hz => by rcases List.mem_cons.1 hz with rfl | hz; omega; have := a1 z hz; omega)] at this
        cases this
    have h2 : x.2 = y.2 := by
      have := h x.1
      rw [look_eq rfl, look_eq hxy.symm] at this
      exact Option.some.inj this
    have e : x = y := Prod.ext hxy h2
    subst e
    rw [ext_srt a2 b2 fun c => ?_]
    by_cases hc : x.1 = c
    · rw [look_none fun z hz => by have := a1 z hz; omega, look_none fun z hz => by have := b1 z hz; omega]
    · have := h c
      rwa [look_ne hc, look_ne hc] at this

/-! ### the chapter's registers -/
/-- A register: its kind, its lines. -/
abbrev G := Int × List ByteArray
def reg (c : Nat) : Nat := if c = 0 then 34 else if 65 ≤ c ∧ c ≤ 90 then c + 32 else c
def jnl (a b : List ByteArray) : List ByteArray := if a = [] ∨ b = [] then a ++ b else a.take (a.length - 1) ++ (a.getD (a.length - 1) ⟨#[]⟩ ++ b.getD 0 ⟨#[]⟩) :: b.drop 1
def jn (g h : G) : G := if g.1 = 0 ∧ h.1 = 0 then (0, jnl g.2 h.2) else (1, g.2 ++ h.2)
def pr (L : ML G) (c : Nat) (g : G) : G := if c = reg c then g else match lk L (reg c) with | some h => jn h g | none => g
def put (L : ML G) (c : Nat) (g : G) : Int × ML G :=
  if 97 ≤ reg c ∧ reg c ≤ 122 then (if tz (pr L c g).2 ≤ 4096 then (0, ins L (reg c) (pr L c g)) else (21, L)) else (23, L)
def hand (L : ML α) (f t : Nat) : ML α := match lk L f with | some g => ins L t g | none => L
def yank (L : ML G) (c : Nat) (g : G) : Int × ML G :=
  if reg c = 34 then (if tz g.2 ≤ 4096 then (0, ins (ins L 34 g) 48 g) else (21, L))
  else if c = 95 then (0, L)
  else if (put L c g).1 = 0 then (0, hand (put L c g).2 (reg c) 34) else ((put L c g).1, L)
def dn (L : ML α) : Nat → ML α
  | 0 => L
  | j + 1 => hand (dn L j) (56 - j) (57 - j)
def cut (L : ML G) (c : Nat) (g : G) : Int × ML G :=
  if reg c = 34 then (if tz g.2 ≤ 4096 then (0, if g.1 ≠ 1 ∧ g.2.length ≤ 1 then ins (ins L 34 g) 45 g else ins (dn (ins L 34 g) 8) 49 g) else (21, L))
  else yank L c g

theorem srt_hand {L : ML α} (h : Srt L) (f t : Nat) : Srt (hand L f t) := by
  unfold hand
  split
  · exact srt_ins h _ _
  · exact h
theorem look_hand (L : ML α) (f t d : Nat) : lk (hand L f t) d = if d = t then (lk L f).orElse (fun _ => lk L d) else lk L d := by
  unfold hand
  split
  · rename_i g hg
    rw [look_ins, hg]
    rfl
  · rename_i hg
    rw [hg]
    split <;> rfl
theorem hand_some {L : ML α} {f t : Nat} {g : α} (h : lk L f = some g) : hand L f t = ins L t g := by unfold hand; rw [h]
theorem hand_none {L : ML α} {f t : Nat} (h : lk L f = none) : hand L f t = L := by unfold hand; rw [h]
theorem srt_dn {L : ML α} (h : Srt L) : ∀ j, Srt (dn L j)
  | 0 => h
  | j + 1 => srt_hand (srt_dn h j) _ _
theorem look_dn (L : ML α) : ∀ (j : Nat), j ≤ 8 → ∀ d, lk (dn L j) d = if 58 - j ≤ d ∧ d ≤ 57 then (lk L (d - 1)).orElse (fun _ => lk L d) else lk L d
  | 0, _, d => by rw [if_neg (by omega)]; rfl
  | j + 1, hj, d => by
    show lk (hand (dn L j) (56 - j) (57 - j)) d = _
    rw [look_hand]
    by_cases hd : d = 57 - j
    · rw [if_pos hd, look_dn L j (by omega) (56 - j), look_dn L j (by omega) d, if_neg (show ¬ (58 - j ≤ 56 - j ∧ 56 - j ≤ 57) by omega), if_neg (show ¬ (58 - j ≤ d ∧ d ≤ 57) by omega), if_pos (show 58 - (j + 1) ≤ d ∧ d ≤ 57 by omega), show d - 1 = 56 - j by omega]
    · rw [if_neg hd, look_dn L j (by omega) d]
      by_cases h3 : 58 - (j + 1) ≤ d ∧ d ≤ 57
      · rw [if_pos h3, if_pos (by omega)]
      · rw [if_neg h3, if_neg (by omega)]
theorem ins_comm {L : ML α} (h : Srt L) {c d : Nat} (hne : c ≠ d) (x y : α) : ins (ins L c x) d y = ins (ins L d y) c x :=
  ext_srt (srt_ins (srt_ins h _ _) _ _) (srt_ins (srt_ins h _ _) _ _) fun e => by
    rw [look_ins, look_ins, look_ins, look_ins]
    by_cases h1 : e = d
    · rw [if_pos h1, if_neg (by omega), if_pos h1]
    · rw [if_neg h1, if_neg h1]
theorem dn_ins {L : ML α} (h : Srt L) (x : α) : ins (ins (dn L 8) 49 x) 34 x = ins (dn (ins L 34 x) 8) 49 x :=
  ext_srt (srt_ins (srt_ins (srt_dn h 8) _ _) _ _) (srt_ins (srt_dn (srt_ins h _ _) 8) _ _) fun e => by
    rw [look_ins, look_ins, look_ins, look_dn L 8 (by omega), look_dn _ 8 (by omega), look_ins, look_ins]
    by_cases h1 : e = 34
    · rw [if_pos h1, if_neg (by omega), if_neg (by omega), if_pos h1]
    · rw [if_neg h1]
      by_cases h2 : e = 49
      · rw [if_pos h2, if_pos h2]
      · rw [if_neg h2, if_neg h2, if_neg h1]
        by_cases h3 : 58 - 8 ≤ e ∧ e ≤ 57
        · rw [if_pos h3, if_pos h3, if_neg (by omega)]
        · rw [if_neg h3, if_neg h3]
theorem look_dn34 (L : ML α) (x : α) : lk (dn (ins L 34 x) 8) 34 = some x := by rw [look_dn _ 8 (by omega), if_neg (by omega), look_ins, if_pos rfl]

/-- The names that there are. -/
def vn (c : Nat) : Prop := c = 34 ∨ c = 45 ∨ (48 ≤ c ∧ c ≤ 57) ∨ (97 ≤ c ∧ c ≤ 122)
def Ok (L : ML G) : Prop := Srt L ∧ ∀ x ∈ L, vn x.1 ∧ tz x.2.2 ≤ 4096
theorem ok_nil : Ok [] := ⟨List.Pairwise.nil, fun x h => by cases h⟩
theorem ok_ins {L : ML G} (h : Ok L) {c : Nat} {g : G} (hc : vn c) (hg : tz g.2 ≤ 4096) : Ok (ins L c g) := ⟨srt_ins h.1 _ _, fun y hy => by
  rcases mem_ins hy with rfl | hy
  · exact ⟨hc, hg⟩
  · exact h.2 y hy⟩
theorem ok_look {L : ML G} (h : Ok L) {c : Nat} {g : G} (hg : lk L c = some g) : vn c ∧ tz g.2 ≤ 4096 := h.2 _ (look_mem hg)
theorem ok_hand {L : ML G} (h : Ok L) (f : Nat) {t : Nat} (ht : vn t) : Ok (hand L f t) := by
  unfold hand
  split
  · rename_i g hg
    exact ok_ins h ht (ok_look h hg).2
  · exact h
theorem ok_dn {L : ML G} (h : Ok L) : ∀ j, j ≤ 8 → Ok (dn L j)
  | 0, _ => h
  | j + 1, hj => ok_hand (ok_dn h j (by omega)) _ (by unfold vn; omega)
theorem ok_put {L : ML G} (h : Ok L) (c : Nat) (g : G) : Ok (put L c g).2 := by
  unfold put
  split
  · split
    · exact ok_ins h (by unfold vn; omega) (by assumption)
    · exact h
  · exact h
theorem ok_yank {L : ML G} (h : Ok L) (c : Nat) (g : G) : Ok (yank L c g).2 := by
  unfold yank
  split
  · split
    · exact ok_ins (ok_ins h (by unfold vn; omega) (by assumption)) (by unfold vn; omega) (by assumption)
    · exact h
  · split
    · exact h
    · split
      · exact ok_hand (ok_put h c g) _ (by unfold vn; omega)
      · exact h
theorem ok_cut {L : ML G} (h : Ok L) (c : Nat) (g : G) : Ok (cut L c g).2 := by
  unfold cut
  split
  · split
    · rename_i hg
      show Ok (if _ then _ else _)
      split
      · exact ok_ins (ok_ins h (by unfold vn; omega) hg) (by unfold vn; omega) hg
      · exact ok_ins (ok_dn (ok_ins h (by unfold vn; omega) hg) 8 (by omega)) (by unfold vn; omega) hg
    · exact h
  · exact ok_yank h c g

/-- All names, in order. -/
def nmL : List Nat := [34, 45, 48, 49, 50, 51, 52, 53, 54, 55, 56, 57, 97, 98, 99, 100, 101, 102, 103, 104, 105, 106, 107, 108, 109, 110, 111, 112, 113, 114, 115, 116, 117, 118, 119, 120, 121, 122]
theorem mem_nmL {c : Nat} (h : vn c) : c ∈ nmL := by
  have hc : c < 123 := by unfold vn at h; omega
  have : ∀ c : Fin 123, (c.1 = 34 ∨ c.1 = 45 ∨ (48 ≤ c.1 ∧ c.1 ≤ 57) ∨ (97 ≤ c.1 ∧ c.1 ≤ 122)) → c.1 ∈ nmL := by decide
  exact this ⟨c, hc⟩ h
/-- The names that were asked for so far, of those that are set. -/
def upK (L : ML α) (k : Nat) : List Nat := (nmL.take k).filter fun c => (lk L c).isSome
theorem upK_zero (L : ML α) : upK L 0 = [] := rfl
theorem upK_succ (L : ML α) (k : Nat) (hk : k < 38) : upK L (k + 1) = upK L k ++ if (lk L (nmL[k]'hk)).isSome = true then [nmL[k]'hk] else [] := by
  unfold upK
  rw [List.take_succ_eq_append_getElem hk, List.filter_append]
  congr 1
  simp only [List.filter_cons, List.filter_nil]
theorem upK_end {L : ML G} (h : Ok L) : upK L 38 = nms L := by
  have hp : (nmL.take 38).Pairwise (· < ·) := by decide
  refine eq_sorted (hp.filter _) (srt_nms h.1) fun x => ?_
  unfold upK
  rw [List.mem_filter]
  constructor
  · rintro ⟨_, h'⟩
    exact (look_isSome h.1 x).1 h'
  · intro h'
    refine ⟨?_, (look_isSome h.1 x).2 h'⟩
    obtain ⟨y, hy, rfl⟩ := List.mem_map.1 h'
    exact mem_nmL (h.2 y hy).1
theorem length_upK (L : ML α) (k : Nat) : (upK L k).length ≤ k := by
  unfold upK
  refine Nat.le_trans (List.length_filter_le _ _) ?_
  rw [List.length_take]
  omega
theorem length_ok {L : ML G} (h : Ok L) : L.length ≤ 38 := by
  have h1 := length_upK L 38
  rw [upK_end h] at h1
  unfold nms at h1
  rwa [List.length_map] at h1
theorem reg_lt {c : Nat} (h : c < 256) : reg c < 256 := by unfold reg; split; omega; split <;> omega

/-! ### two lists of the same names, value by value -/
variable {β : Type} {P Q : α → β → Prop}
def Tl (P : α → β → Prop) : ML α → ML β → Prop
  | [], [] => True
  | x :: A, y :: B => x.1 = y.1 ∧ P x.2 y.2 ∧ Tl P A B
  | [], _ :: _ => False
  | _ :: _, [] => False
theorem Tl.look : ∀ {A : ML α} {B : ML β}, Tl P A B → ∀ c, (lk A c = none ∧ lk B c = none) ∨ ∃ x g, lk A c = some x ∧ lk B c = some g ∧ P x g
  | [], [], _, c => .inl ⟨rfl, rfl⟩
  | x :: A, y :: B, h, c => by
    by_cases hc : x.1 = c
    · exact .inr ⟨_, _, look_eq hc, look_eq (h.1 ▸ hc), h.2.1⟩
    · rw [look_ne hc, look_ne (h.1 ▸ hc)]
      exact Tl.look h.2.2 c
  | [], _ :: _, h, _ => h.elim
  | _ :: _, [], h, _ => h.elim
theorem Tl.ins : ∀ {A : ML α} {B : ML β}, Tl P A B → ∀ (c : Nat) {x : α} {g : β}, P x g → Tl P (ins A c x) (ins B c g)
  | [], [], _, c, _, _, hp => ⟨rfl, hp, trivial⟩
  | x :: A, y :: B, h, c, u, g, hp => by
    unfold Rl.ins
    rw [h.1]
    split
    · exact ⟨h.1, h.2.1, Tl.ins h.2.2 c hp⟩
    · split
      · exact ⟨rfl, hp, h.2.2⟩
      · exact ⟨rfl, hp, h⟩
  | [], _ :: _, h, _, _, _, _ => h.elim
  | _ :: _, [], h, _, _, _, _ => h.elim
theorem Tl.mono (hpq : ∀ x g, P x g → Q x g) : ∀ {A : ML α} {B : ML β}, Tl P A B → Tl Q A B
  | [], [], _ => trivial
  | _ :: _, _ :: _, h => ⟨h.1, hpq _ _ h.2.1, Tl.mono hpq h.2.2⟩
  | [], _ :: _, h => h.elim
  | _ :: _, [], h => h.elim
theorem Tl.names : ∀ {A : ML α} {B : ML β}, Tl P A B → nms A = nms B
  | [], [], _ => rfl
  | x :: A, y :: B, h => by
    show x.1 :: nms A = y.1 :: nms B
    rw [h.1, Tl.names h.2.2]
  | [], _ :: _, h => h.elim
  | _ :: _, [], h => h.elim
theorem Tl.length {A : ML α} {B : ML β} (h : Tl P A B) : A.length = B.length := by
  rw [← length_nms, ← length_nms, h.names]
theorem srt_of_nms {A : ML α} {B : ML β} (h : nms A = nms B) (hb : Srt B) : Srt A := by
  have := srt_nms hb
  rw [← h] at this
  unfold nms at this
  rw [List.pairwise_map] at this
  exact this
theorem Tl.srt {A : ML α} {B : ML β} (h : Tl P A B) (hb : Srt B) : Srt A := srt_of_nms h.names hb
theorem Tl.hand {A : ML α} {B : ML β} (h : Tl P A B) (f t : Nat) : Tl P (hand A f t) (hand B f t) := by
  rcases h.look f with ⟨h1, h2⟩ | ⟨x, g, h1, h2, hp⟩
  · rw [hand_none h1, hand_none h2]
    exact h
  · rw [hand_some h1, hand_some h2]
    exact h.ins t hp
end Go.Proofs.Ytgfajagajiofnaa.Rl
