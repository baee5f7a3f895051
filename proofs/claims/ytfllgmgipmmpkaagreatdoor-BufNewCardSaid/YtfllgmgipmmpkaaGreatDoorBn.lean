/-
  Buffers: New, exchange, Replace.
-/
import Derived.Test.YtfllgmgipmmpkaaGreatDoorBf
set_option linter.unusedVariables false
set_option linter.unusedSimpArgs false
set_option maxRecDepth 100000
namespace Go.Proofs.YtfllgmgipmmpkaaGreatDoor.Bf
open Go Go.RowKit Go.Proofs.YtfllgmgipmmpkaaGreatDoor.Vk Go.Proofs.YtfllgmgipmmpkaaGreatDoor.Tm Go.Proofs.YtfllgmgipmmpkaaGreatDoor.Tf Go.Proofs.YtfllgmgipmmpkaaGreatDoor.Lm Go.Shelf
attribute [local go_sem] Oper.semAt_some

theorem of_bytes (l : List UInt8) : (⟨l.toArray⟩ : ByteArray).data.toList = l := by simp
theorem of_size (l : List UInt8) : (⟨l.toArray⟩ : ByteArray).size = l.length := by rw [← Str.size_str, of_bytes]

theorem new_broken (a : Option Addr) (n c : Nat) (ls : List ByteArray) (w : World) (h : Ss w a n c ls) (hn : n ≤ 100000) (hl : ¬ NoLf ls) :
    Calls Tryz.prog 10 #[.slice a n c] w fun e w' => e = .returned (.tuple #[.pointer none, .int .i64 20]) ∧ Below w.heap.size w w' := by
  have hne : ls ≠ [] := by rintro rfl; exact hl (fun s hs => by simp at hs)
  have hleast := least_any a n c ls w h (by omega)
  go_enter Tryz.func10, Tryz.ntmps10
  go_wp2_with fail
  refine hleast.mono ?_
  rintro e w1 ⟨a', n', c', rfl, h1, hb1⟩
  rw [lst_id hne] at h1
  have hlen := h.length
  have hlen1 := h1.length
  have he := ended_broken a' n' c' ls 4096 w1 h1 (by omega) hl
  clear hleast h1 h
  go_wp2_with fail
  refine he.mono ?_
  rintro e w2 ⟨rfl, rfl⟩
  clear he
  go_wp2
  go_ret2
  exact ⟨rfl, hb1⟩

theorem lst_length (ls : List ByteArray) : (lst ls).length ≤ ls.length + 1 := by unfold lst; split <;> simp

theorem new_full (a : Option Addr) (n c : Nat) (ls : List ByteArray) (w : World) (h : Ss w a n c ls) (hn : n ≤ 100000) (hl : NoLf ls) (hs : (jn ls).length ≤ 4000000000000000000) (hf : 4096 < (jn ls).length) :
    Calls Tryz.prog 10 #[.slice a n c] w fun e w' => e = .returned (.tuple #[.pointer none, .int .i64 21]) ∧ Below w.heap.size w w' := by
  have hne : ls ≠ [] := by rintro rfl; simp [jn] at hf
  have hleast := least_any a n c ls w h (by omega)
  go_enter Tryz.func10, Tryz.ntmps10
  go_wp2_with fail
  refine hleast.mono ?_
  rintro e w1 ⟨a', n', c', rfl, h1, hb1⟩
  rw [lst_id hne] at h1
  have hlen := h.length
  have hlen1 := h1.length
  have he := ended_full a' n' c' ls 4096 w1 h1 (by omega) hl hs (by omega)
  clear hleast h1 h
  go_wp2_with fail
  refine he.mono ?_
  rintro e w2 ⟨rfl, rfl⟩
  clear he
  go_wp2
  go_ret2
  exact ⟨rfl, hb1⟩

theorem new_ok (a : Option Addr) (n c : Nat) (ls : List ByteArray) (w : World) (h : Ss w a n c ls) (hn : n ≤ 100000) (hl : NoLf ls) (hs : (jn (lst ls)).length ≤ 4096) :
    Calls Tryz.prog 10 #[.slice a n c] w fun e w' => ∃ b F np, e = .returned (.tuple #[.pointer (some ⟨b, 0, none⟩), .int .i64 0]) ∧ Buf w' w.heap.size b F (lst ls) 0 np (jn (lst ls)).length ∧ Below w.heap.size w w' := by
  have hcl := lst_clean hl
  have hl0 := lst_ne ls
  have hll := lst_length ls
  have hleast := least_any a n c ls w h (by omega)
  have hlen := h.length
  clear h
  go_enter Tryz.func10, Tryz.ntmps10
  go_wp2_with fail
  refine hleast.mono ?_
  rintro e w1 ⟨a', n', c', rfl, h1, hb1⟩
  have hlen1 := h1.length
  have he := ended_ok a' n' c' (lst ls) 4096 w1 h1 (by omega) hcl (by omega) (by omega)
  have HB1 := Lib.hid hb1
  have hs1 := hb1.size
  clear hleast h1 hb1
  go_wp2_with fail
  refine he.mono ?_
  rintro e w2 ⟨rfl, hb2⟩
  have HB2 := Lib.hid (HB1.out.trans (hb2.mono hs1))
  have hs2 := hb2.size
  have ht := Tb.new_ok ⟨(jn (lst ls)).toArray⟩ 4096 w2 (by rw [of_size]; omega) (by rw [of_size]; omega) (by omega)
  rw [of_bytes, of_size] at ht
  have hx : ∀ w3, _ := fun w3 => Lx.new_any ⟨(jn (lst ls)).toArray⟩ w3 (by rw [of_size]; omega)
  simp only at hx
  clear he hb2
  generalize (⟨(jn (lst ls)).toArray⟩ : ByteArray) = tx at *
  go_wp2_with fail
  refine ht.mono ?_
  rintro e w3 ⟨t, Ft, np, rfl, htab, hb3⟩
  have HT := Lib.hid htab
  have HB3 := Lib.hid hb3
  have hs3 := hb3.size
  have hx3 := hx w3
  clear htab hb3 ht hx
  go_wp2_with fail
  refine hx3.mono ?_
  rintro e w4 ⟨x, Fx, rfl, hix, hb4⟩
  have HX := Lib.hid hix
  have HB4 := Lib.hid hb4
  have hs4 := hb4.size
  clear hix hb4 hx3
  go_wp2
  go_ret2
  obtain ⟨W, hW⟩ : ∃ W, W = w4.alloc (.cells #[.pointer (some ⟨t, 0, none⟩), .pointer (some ⟨x, 0, none⟩)] TBuf) := ⟨_, rfl⟩
  rw [← hW]
  have hbW : Below w4.heap.size w4 W := by rw [hW]; exact (Below.refl _ w4).alloc (Nat.le_refl _) _
  have hT4 := (HT.out.below HB4.out)
  have ltT : ∀ k, Ft k → w2.heap.size ≤ k ∧ k < w3.heap.size := fun k hk => HT.out.lt hk
  have ltX : ∀ k, Fx k → w3.heap.size ≤ k ∧ k < w4.heap.size := fun k hk => HX.out.footLt k hk
  refine ⟨w4.heap.size, _, np, rfl, ⟨t, x, Ft, Fx, ?_, by omega, (hT4.below hbW).base_mono (by omega), (HX.out.below hbW).mono (by omega), ?_, ?_, ?_, rfl, hcl, hl0⟩, ?_⟩
  · rw [hW]; exact World.alloc_heap_new w4 _
  · intro k hk hk'; have := ltT k hk; have := ltX k hk'; omega
  · intro hk; have := ltT _ hk; omega
  · intro hk; have := ltX _ hk; omega
  · exact HB2.out.trans ((HB3.out.trans ((HB4.out.trans (hbW.mono (by omega))).mono (by omega))).mono (by omega))

section
variable {w w' : World} {base b : Nat} {F S : Nat → Prop} {ls : List ByteArray} {edits np used : Nat}

/-- The table behind Delete and Insert, whatever is taken out or put in. -/
def TCh (w : World) (base t : Nat) (F : Nat → Prop) (T : List UInt8) (used : Nat) (w' : World) : Prop :=
  ∃ F' edits' np', Tb.Tab w' base t F' T 4096 edits' np' used ∧ Fr F w w' ∧ ∀ k, F' k → F k ∨ w.heap.size ≤ k

theorem tdel {t : Nat} {T : List UInt8} (h : Tb.Tab w base t F T 4096 edits np used) (off n : Nat) (ho : off + n ≤ T.length) (hu : used ≤ 100000) :
    Calls Tryz.prog 53 #[.pointer (some ⟨t, 0, none⟩), .int .i64 off, .int .i64 n] w fun e w' => e = .returned (.int .i64 0) ∧ TCh w base t F (T.take off ++ T.drop (off + n)) (used + 1) w' := by
  have hf := h.facts
  rcases Nat.eq_zero_or_pos n with rfl | hn
  · refine (Tb.delete_zero h off (by unfold Tb.inside; omega)).mono ?_
    rintro e w' ⟨rfl, rfl⟩
    refine ⟨rfl, F, edits, np, ?_, Fr.refl _ _, fun k hk => .inl hk⟩
    rw [Nat.add_zero, List.take_append_drop]
    exact h.more (by omega)
  · refine (Tb.delete_some h off n hn ho (by omega) hu).mono ?_
    rintro e w' ⟨rfl, F', np', h1, h2, h3⟩
    exact ⟨rfl, F', _, np', h1, h2, h3⟩
theorem tins {t : Nat} {T : List UInt8} (h : Tb.Tab w base t F T 4096 edits np used) (off : Nat) (s : ByteArray) (ho : off ≤ T.length) (hfit : T.length + s.size ≤ 4096) (hu : used + s.size ≤ 100000) :
    Calls Tryz.prog 55 #[.pointer (some ⟨t, 0, none⟩), .int .i64 off, .string s] w fun e w' => e = .returned (.int .i64 0) ∧ TCh w base t F (T.take off ++ s.data.toList ++ T.drop off) (used + s.size + 1) w' := by
  have hf := h.facts
  rcases Nat.eq_zero_or_pos s.size with h0 | hn
  · refine (Tb.insert_empty h off s ho (by omega) h0).mono ?_
    rintro e w' ⟨rfl, hb⟩
    refine ⟨rfl, F, edits, np, ?_, Fr.ofBelow hb _, fun k hk => .inl hk⟩
    rw [Str.size_zero_list h0, List.append_nil, List.take_append_drop]
    exact (h.below hb).more (by omega)
  · refine (Tb.insert_some h off s ho (by omega) (by omega) hu hn).mono ?_
    rintro e w' ⟨rfl, F', np', h1, h2, h3⟩
    exact ⟨rfl, F', _, np', h1, h2, h3⟩

def BCh (w : World) (base b : Nat) (F : Nat → Prop) (ls : List ByteArray) (used : Nat) (w' : World) : Prop :=
  ∃ F' edits' np', Buf w' base b F' ls edits' np' used ∧ Fr F w w' ∧ ∀ k, F' k → F k ∨ w.heap.size ≤ k

theorem mid_text {T s : List UInt8} {off n : Nat} (ho : off + n ≤ T.length) :
    (T.take off ++ T.drop (off + n)).take off ++ s ++ (T.take off ++ T.drop (off + n)).drop off = T.take off ++ s ++ T.drop (off + n) := by
  have hl : (T.take off).length = off := by rw [List.length_take]; omega
  rw [List.take_left' hl, List.drop_left' hl]

set_option maxHeartbeats 1000000 in
theorem exchange_any (h : Buf w base b F ls edits np used) (off n : Nat) (s : ByteArray) (ls' : List ByteArray) (ho : off + n ≤ (jn ls).length)
    (hj : jn ls' = (jn ls).take off ++ s.data.toList ++ (jn ls).drop (off + n)) (hc' : NoLf ls') (h0' : ls' ≠ []) (hfit : (jn ls').length ≤ 4096) (hu : used + s.size ≤ 99000) :
    Calls Tryz.prog 31 #[.pointer (some ⟨b, 0, none⟩), .int .i64 off, .int .i64 n, .string s] w fun e w' => e = .returned (.tuple #[]) ∧ BCh w base b F ls' (used + s.size + 2) w' := by
  have hf := h.facts
  have hblt := fun k hk => h.lt (k := k) hk
  obtain ⟨t, x, Ft, Fx, hb, hbb, ht, hx, hd, hd1, hd2, rfl, hc, h0⟩ := h
  have hfl : (jn ls').length = (jn ls).length - n + s.size := by
    rw [hj, List.length_append, List.length_append, List.length_take, List.length_drop, Str.size_str]; omega
  have hDl : ((jn ls).take off ++ (jn ls).drop (off + n)).length = (jn ls).length - n := by
    rw [List.length_append, List.length_take, List.length_drop]; omega
  have hmid : _ := mid_text (s := s.data.toList) ho
  rw [← hj] at hmid
  generalize hD : (jn ls).take off ++ (jn ls).drop (off + n) = D at *
  obtain ⟨c0, c1⟩ := head_cells hb
  have hblt0 := (Array.getElem?_eq_some_iff.1 hb).1
  have HB := hb
  have hdel := tdel ht off n ho (by omega)
  rw [hD] at hdel
  have hFtl : ∀ k, Ft k → base ≤ k ∧ k < w.heap.size := fun k hk => ht.lt hk
  have hFxl : ∀ k, Fx k → base ≤ k ∧ k < w.heap.size := fun k hk => hx.footLt k hk
  clear hj hb ht
  go_enter Tryz.func31, Tryz.ntmps31
  go_wp2_with fail
  refine hdel.mono ?_
  rintro e w1 ⟨rfl, Ft1, ed1, np1, ht1, hf1, hn1⟩
  have hs1 := hf1.size
  have c01 := hf1.cell c0 hd1
  have c11 := hf1.cell c1 hd1
  have hx1 := hx.fr hf1 (fun k hk hk' => hd k hk' hk)
  have hidel := Lx.delete_yes hx1 off n ho (by omega)
  rw [hD] at hidel
  have HT1 := Lib.hid ht1
  have HF1 := Lib.hid hf1
  clear hdel c0 c1 hx hx1 ht1 hf1
  go_wp2_with fail
  refine hidel.mono ?_
  rintro e w2 ⟨rfl, Fx1, hx2, hf2, hn2⟩
  have hs2 := hf2.size
  have c02 := hf2.cell c01 hd2
  have c12 := hf2.cell c11 hd2
  have hdis1 : ∀ k, Ft1 k → ¬ Fx k := fun k hk hk' => by
    rcases hn1 k hk with h | h
    · exact hd k h hk'
    · have := hFxl k hk'; omega
  have ht2 := HT1.out.fr hf2 hdis1
  have hins := tins ht2 off s (by omega) (by omega) (by omega)
  rw [hmid] at hins
  have HX2 := Lib.hid hx2
  have HF2 := Lib.hid hf2
  have hF1l : ∀ k, Ft1 k → base ≤ k ∧ k < w1.heap.size := fun k hk => HT1.out.lt hk
  have hFx1l : ∀ k, Fx1 k → base ≤ k ∧ k < w2.heap.size := fun k hk => hx2.footLt k hk
  have hdis2 : ∀ k, Ft1 k → ¬ Fx1 k := fun k hk hk' => by
    rcases hn2 k hk' with h | h
    · exact hdis1 k hk h
    · have := hF1l k hk; omega
  have hd1' : ¬ Ft1 b := fun hk => by
    rcases hn1 b hk with h | h
    · exact hd1 h
    · omega
  have hd2' : ¬ Fx1 b := fun hk => by
    rcases hn2 b hk with h | h
    · exact hd2 h
    · omega
  clear hidel c01 c11 ht2 hx2 hf2
  go_wp2_with fail
  refine hins.mono ?_
  rintro e w3 ⟨rfl, Ft3, ed3, np3, ht3, hf3, hn3⟩
  have hs3 := hf3.size
  have c03 := hf3.cell c02 hd1'
  have c13 := hf3.cell c12 hd1'
  have hx3 := HX2.out.fr hf3 (fun k hk hk' => hdis2 k hk' hk)
  have hiins := Lx.insert_yes hx3 off s (by omega) (by omega)
  rw [hmid] at hiins
  have HT3 := Lib.hid ht3
  have HF3 := Lib.hid hf3
  have hF3l : ∀ k, Ft3 k → base ≤ k ∧ k < w3.heap.size := fun k hk => ht3.lt hk
  have hdis3 : ∀ k, Ft3 k → ¬ Fx1 k := fun k hk hk' => by
    rcases hn3 k hk with h | h
    · exact hdis2 k h hk'
    · have := hFx1l k hk'; omega
  clear hins c02 c12 ht3 hf3 hx3
  go_wp2_with fail
  refine hiins.mono ?_
  rintro e w4 ⟨rfl, Fx4, hx4, hf4, hn4⟩
  have HX4 := Lib.hid hx4
  have HF4 := Lib.hid hf4
  have hs4 := hf4.size
  have ht4 := HT3.out.fr hf4 hdis3
  have hbk : w4.heap[b]? = w.heap[b]? := by
    rw [hf4.block b (by omega) hd2', HF3.out.block b (by omega) hd1', HF2.out.block b (by omega) hd2, HF1.out.block b hblt0 hd1]
  have HT4 := Lib.hid ht4
  have HBK := Lib.hid hbk
  clear hiins hx4 hf4 ht4 hbk
  go_wp2
  go_end0
  rw [show used + 1 + s.size + 1 = used + s.size + 2 by omega] at HT4
  refine ⟨rfl, fun k => k = b ∨ Ft3 k ∨ Fx4 k, ed3, np3, ⟨t, x, Ft3, Fx4, HBK.out.trans (by rw [HB]), hbb, HT4.out, HX4.out, ?_, ?_, ?_, rfl, hc', h0'⟩, ?_, ?_⟩
  · intro k hk hk'
    rcases hn4 k hk' with h | h
    · exact hdis3 k hk h
    · have := hF3l k hk; omega
  · intro hk
    rcases hn3 b hk with h | h
    · exact hd1' h
    · omega
  · intro hk
    rcases hn4 b hk with h | h
    · exact hd2' h
    · omega
  · have h1 := HF1.out.mono (S' := fun k => k = b ∨ Ft k ∨ Fx k) (fun i _ h => .inr (.inl h))
    have h2 := h1.trans' HF2.out (fun i _ h => .inr (.inr h))
    have h3 := h2.trans' HF3.out (fun i hi h => by
      rcases hn1 i h with h | h
      · exact .inr (.inl h)
      · omega)
    exact h3.trans' HF4.out (fun i hi h => by
      rcases hn2 i h with h | h
      · exact .inr (.inr h)
      · omega)
  · intro k hk
    rcases hk with rfl | hk | hk
    · exact .inl (.inl rfl)
    · rcases hn3 k hk with h | h
      · rcases hn1 k h with h | h
        · exact .inl (.inr (.inl h))
        · exact .inr (by omega)
      · exact .inr (by omega)
    · rcases hn4 k hk with h | h
      · rcases hn2 k h with h | h
        · exact .inl (.inr (.inr h))
        · exact .inr (by omega)
      · exact .inr (by omega)

theorem BCh.below {B : Nat} {used' : Nat} {ls' : List ByteArray} (h : BCh w base b F ls' used' w') (hB : B ≤ w.heap.size) (hF : ∀ k, F k → B ≤ k) : Below B w w' := by
  obtain ⟨F', e, n, hb, hf, hn⟩ := h
  exact hf.below hB hF

/-- The lines that are put in: one at least, where none would be left. -/
def nw (ls : List ByteArray) (n : Nat) (ms : List ByteArray) : List ByteArray := if n = ls.length then lst ms else ms
theorem nw_clean {ls ms : List ByteArray} {n : Nat} (h : NoLf ms) : NoLf (nw ls n ms) := by unfold nw; split; exact lst_clean h; exact h
theorem nw_rep (ls ms : List ByteArray) (i n : Nat) (h : i + n ≤ ls.length) : lst (rep ls i n ms) = rep ls i n (nw ls n ms) := by
  unfold nw
  split
  · next hn =>
    obtain rfl : i = 0 := by omega
    subst hn
    simp [rep]
  · next hn =>
    refine lst_id fun h0 => ?_
    have := congrArg List.length h0
    rw [rep_length ls ms i n h] at this
    simp at this; omega

theorem replace_place (h : Buf w base b F ls edits np used) (i n : Int) (x : Value) (hh : ¬ Has ls i n) :
    Calls Tryz.prog 13 #[.pointer (some ⟨b, 0, none⟩), .int .i64 i, .int .i64 n, x] w fun e w' => e = .returned (.int .i64 20) ∧ w = w' := by
  have hno := has_no h i n hh
  clear h
  go_enter Tryz.func13, Tryz.ntmps13
  go_wp2_with fail
  refine hno.mono ?_
  rintro e w' ⟨rfl, rfl⟩
  clear hno
  go_wp2
  go_ret
  exact ⟨rfl, rfl⟩

end
end Go.Proofs.YtfllgmgipmmpkaaGreatDoor.Bf
