/-
  Buffers: Replace.
-/
import Derived.Test.YtfllgmgipmmpkaaGreatDoorBn
set_option linter.unusedVariables false
set_option linter.unusedSimpArgs false
set_option maxRecDepth 100000
namespace Go.Proofs.YtfllgmgipmmpkaaGreatDoor.Bf
open Go Go.RowKit Go.Proofs.YtfllgmgipmmpkaaGreatDoor.Vk Go.Proofs.YtfllgmgipmmpkaaGreatDoor.Tm Go.Proofs.YtfllgmgipmmpkaaGreatDoor.Tf Go.Proofs.YtfllgmgipmmpkaaGreatDoor.Lm Go.Shelf
attribute [local go_sem] Oper.semAt_some
section
variable {w w' : World} {base b : Nat} {F S : Nat → Prop} {ls : List ByteArray} {edits np used : Nat}

set_option maxHeartbeats 2000000 in
theorem replace_broken (h : Buf w base b F ls edits np used) (i n : Nat) (a : Option Addr) (m c : Nat) (ms : List ByteArray) (hm : Ss w a m c ms) (hi : i + n ≤ ls.length) (hm5 : m ≤ 100000) (hcl0 : ¬ NoLf ms) :
    Calls Tryz.prog 13 #[.pointer (some ⟨b, 0, none⟩), .int .i64 i, .int .i64 n, .slice a m c] w fun e w' => e = .returned (.int .i64 20) ∧ Below w.heap.size w w' := by
  have hf := h.facts
  have hlen := hm.length
  have hle := jn_len_ge ls
  have hyes := has_yes h i n (by unfold Has; omega)
  have hcnt := count_any h
  have hleast := least_any a m c ms w hm (by omega)
  have hbk : ∃ (t x : Nat) (Fx : Nat → Prop), w.heap[b]? = some (.cells #[.pointer (some ⟨t, 0, none⟩), .pointer (some ⟨x, 0, none⟩)] TBuf (0, 0)) ∧ Lx.Idx w base x Fx (jn ls) := by
    obtain ⟨t, x, Ft, Fx, hb, hbb, ht, hx, _⟩ := h
    exact ⟨t, x, Fx, hb, hx⟩
  obtain ⟨t, x, Fx, hb, hx⟩ := hbk
  have hst : ∀ w1, Below w.heap.size w w1 → Calls Tryz.prog 30 #[.pointer (some ⟨x, 0, none⟩), .int .i64 i] w1 fun e w' => e = .returned (.tuple #[.int .i64 (jn (ls.take i)).length, .bool true]) ∧ w1 = w' := fun w1 hb1 => by
    have := (hx.below hb1).start i (by rw [st_jn_length ls hf.2.1]; omega) (by omega)
    rwa [at0_jn ls hf.2.1 i (by omega)] at this
  have hst2 : ∀ w1, Below w.heap.size w w1 → Calls Tryz.prog 30 #[.pointer (some ⟨x, 0, none⟩), .int .i64 ((i : Int) + (n : Int))] w1 fun e w' => e = .returned (.tuple #[.int .i64 (jn (ls.take (i + n))).length, .bool true]) ∧ w1 = w' := fun w1 hb1 => by
    have := (hx.below hb1).start (i + n) (by rw [st_jn_length ls hf.2.1]; omega) (by omega)
    rw [at0_jn ls hf.2.1 (i + n) (by omega)] at this
    exact this
  have hcs : ∀ w1, Below w.heap.size w w1 → w1.cell? ⟨b, 1, none⟩ = some (.pointer (some ⟨x, 0, none⟩)) := fun w1 hb1 => by
    have hlt := (Array.getElem?_eq_some_iff.1 hb).1
    exact (hb1.cell hlt).trans (head_cells hb).2
  have hby : ∀ w1, Below w.heap.size w w1 → _ := fun w1 hb1 => bytes_any (h.below hb1)
  have hfl := jn_len_mono ls (show i ≤ i + n by omega)
  have hgl := jn_len_take ls (i + n)
  have hlst := lst_length ms
  have hnwl : (nw ls n ms).length ≤ m + 1 := by unfold nw; split <;> omega
  have hcl : ¬ NoLf (nw ls n ms) := by
    unfold nw; split
    · rw [lst_id]; exact hcl0; rintro rfl; exact hcl0 (fun s hs => by simp at hs)
    · exact hcl0
  by_cases hn : n = ls.length
  · -- all lines are replaced
    have hnz : ((n : Int) == (ls.length : Int)) = true := by simp; omega
    have HN := Lib.hid hn
    clear hn
    have hw1 : IntKind.i64.wrap ((i : Int) + (n : Int)) = (i : Int) + (n : Int) := by rw [IntKind.wrap_i64]; omega
    go_enter Tryz.func13, Tryz.ntmps13
    go_wp2_with fail
    refine hyes.mono ?_
    rintro e w' ⟨rfl, rfl⟩
    clear hyes
    go_wp2_with fail
    refine hcnt.mono ?_
    rintro e w' ⟨rfl, rfl⟩
    clear hcnt
    go_wp2_with fail
    refine hleast.mono ?_
    rintro e w1 ⟨a1, m1, c1, rfl, hm1, hb1⟩
    rw [show lst ms = nw ls n ms by rw [nw, if_pos HN.out]] at hm1
    clear hleast hm hnz
    have hs1 := hb1.size
    have hlen1 := hm1.length
    have cs1 := hcs w1 hb1
    have hs1' := hst w1 hb1
    have hs2' := hst2 w1 hb1
    have hby1 := hby w1 hb1
    have hen := ended_broken a1 m1 c1 (nw ls n ms) (4096 - (((jn ls).length : Int) - (((jn (ls.take (i + n))).length : Int) - ((jn (ls.take i)).length : Int)))) w1 hm1 (by omega) hcl
    have hB1 := Lib.hid hb1
    clear hst hst2 hby hcs hb hx h hm1 hb1
    generalize hgf : (jn (ls.take i)).length = f at *
    generalize hgg : (jn (ls.take (i + n))).length = g at *
    have hw2 : IntKind.i64.wrap ((g : Int) - (f : Int)) = (g : Int) - f := by rw [IntKind.wrap_i64]; omega
    have hw3 : IntKind.i64.wrap (((jn ls).length : Int) - ((g : Int) - f)) = ((jn ls).length : Int) - ((g : Int) - f) := by rw [IntKind.wrap_i64]; omega
    have hw4 : IntKind.i64.wrap (4096 - (((jn ls).length : Int) - ((g : Int) - f))) = 4096 - (((jn ls).length : Int) - ((g : Int) - f)) := by rw [IntKind.wrap_i64]; omega
    go_wp2_with fail
    refine hs1'.mono ?_
    rintro e w' ⟨rfl, rfl⟩
    clear hs1'
    go_wp2_with fail
    refine hs2'.mono ?_
    rintro e w' ⟨rfl, rfl⟩
    clear hs2'
    go_wp2_with fail
    refine hby1.mono ?_
    rintro e w' ⟨rfl, rfl⟩
    clear hby1
    go_wp2_with fail
    refine hen.mono ?_
    rintro e w2 ⟨rfl, rfl⟩
    clear hen
    go_wp2
    go_ret
    exact ⟨rfl, hB1.out⟩
  · -- some lines are left
    have hnz : ((n : Int) == (ls.length : Int)) = false := by simp; omega
    have hw1 : IntKind.i64.wrap ((i : Int) + (n : Int)) = (i : Int) + (n : Int) := by rw [IntKind.wrap_i64]; omega
    go_enter Tryz.func13, Tryz.ntmps13
    go_wp2_with fail
    refine hyes.mono ?_
    rintro e w' ⟨rfl, rfl⟩
    clear hyes
    go_wp2_with fail
    refine hcnt.mono ?_
    rintro e w' ⟨rfl, rfl⟩
    clear hcnt
    obtain ⟨w1, rfl⟩ : ∃ w1, w = w1 := ⟨_, rfl⟩
    obtain ⟨a1, m1, c1, hm1, hb1, ea⟩ : ∃ a1 m1 c1, Ss w a1 m1 c1 (nw ls n ms) ∧ Below w.heap.size w w ∧ (a1 = a ∧ m1 = m ∧ c1 = c) := ⟨a, m, c, by rw [nw, if_neg hn]; exact hm, Below.refl _ _, rfl, rfl, rfl⟩
    obtain ⟨rfl, rfl, rfl⟩ := ea
    clear hleast hm hnz
    have hs1 := hb1.size
    have hlen1 := hm1.length
    have cs1 := hcs w hb1
    have hs1' := hst w hb1
    have hs2' := hst2 w hb1
    have hby1 := hby w hb1
    have hen := ended_broken a1 m1 c1 (nw ls n ms) (4096 - (((jn ls).length : Int) - (((jn (ls.take (i + n))).length : Int) - ((jn (ls.take i)).length : Int)))) w hm1 (by omega) hcl
    have hB1 := Lib.hid hb1
    clear hst hst2 hby hcs hb hx h hm1 hb1
    generalize hgf : (jn (ls.take i)).length = f at *
    generalize hgg : (jn (ls.take (i + n))).length = g at *
    have hw2 : IntKind.i64.wrap ((g : Int) - (f : Int)) = (g : Int) - f := by rw [IntKind.wrap_i64]; omega
    have hw3 : IntKind.i64.wrap (((jn ls).length : Int) - ((g : Int) - f)) = ((jn ls).length : Int) - ((g : Int) - f) := by rw [IntKind.wrap_i64]; omega
    have hw4 : IntKind.i64.wrap (4096 - (((jn ls).length : Int) - ((g : Int) - f))) = 4096 - (((jn ls).length : Int) - ((g : Int) - f)) := by rw [IntKind.wrap_i64]; omega
    go_wp2_with fail
    refine hs1'.mono ?_
    rintro e w' ⟨rfl, rfl⟩
    clear hs1'
    go_wp2_with fail
    refine hs2'.mono ?_
    rintro e w' ⟨rfl, rfl⟩
    clear hs2'
    go_wp2_with fail
    refine hby1.mono ?_
    rintro e w' ⟨rfl, rfl⟩
    clear hby1
    go_wp2_with fail
    refine hen.mono ?_
    rintro e w2 ⟨rfl, rfl⟩
    clear hen
    go_wp2
    go_ret
    exact ⟨rfl, hB1.out⟩

set_option maxHeartbeats 2000000 in
theorem replace_full (h : Buf w base b F ls edits np used) (i n : Nat) (a : Option Addr) (m c : Nat) (ms : List ByteArray) (hm : Ss w a m c ms) (hi : i + n ≤ ls.length) (hm5 : m ≤ 100000) (hcl0 : NoLf ms) (hsz : (jn ms).length ≤ 4000000000000000) (hfull : 4096 < (jn (rep ls i n (nw ls n ms))).length) :
    Calls Tryz.prog 13 #[.pointer (some ⟨b, 0, none⟩), .int .i64 i, .int .i64 n, .slice a m c] w fun e w' => e = .returned (.int .i64 21) ∧ Below w.heap.size w w' := by
  have hf := h.facts
  have hlen := hm.length
  have hle := jn_len_ge ls
  have hyes := has_yes h i n (by unfold Has; omega)
  have hcnt := count_any h
  have hleast := least_any a m c ms w hm (by omega)
  have hbk : ∃ (t x : Nat) (Fx : Nat → Prop), w.heap[b]? = some (.cells #[.pointer (some ⟨t, 0, none⟩), .pointer (some ⟨x, 0, none⟩)] TBuf (0, 0)) ∧ Lx.Idx w base x Fx (jn ls) := by
    obtain ⟨t, x, Ft, Fx, hb, hbb, ht, hx, _⟩ := h
    exact ⟨t, x, Fx, hb, hx⟩
  obtain ⟨t, x, Fx, hb, hx⟩ := hbk
  have hst : ∀ w1, Below w.heap.size w w1 → Calls Tryz.prog 30 #[.pointer (some ⟨x, 0, none⟩), .int .i64 i] w1 fun e w' => e = .returned (.tuple #[.int .i64 (jn (ls.take i)).length, .bool true]) ∧ w1 = w' := fun w1 hb1 => by
    have := (hx.below hb1).start i (by rw [st_jn_length ls hf.2.1]; omega) (by omega)
    rwa [at0_jn ls hf.2.1 i (by omega)] at this
  have hst2 : ∀ w1, Below w.heap.size w w1 → Calls Tryz.prog 30 #[.pointer (some ⟨x, 0, none⟩), .int .i64 ((i : Int) + (n : Int))] w1 fun e w' => e = .returned (.tuple #[.int .i64 (jn (ls.take (i + n))).length, .bool true]) ∧ w1 = w' := fun w1 hb1 => by
    have := (hx.below hb1).start (i + n) (by rw [st_jn_length ls hf.2.1]; omega) (by omega)
    rw [at0_jn ls hf.2.1 (i + n) (by omega)] at this
    exact this
  have hcs : ∀ w1, Below w.heap.size w w1 → w1.cell? ⟨b, 1, none⟩ = some (.pointer (some ⟨x, 0, none⟩)) := fun w1 hb1 => by
    have hlt := (Array.getElem?_eq_some_iff.1 hb).1
    exact (hb1.cell hlt).trans (head_cells hb).2
  have hby : ∀ w1, Below w.heap.size w w1 → _ := fun w1 hb1 => bytes_any (h.below hb1)
  have hfl := jn_len_mono ls (show i ≤ i + n by omega)
  have hgl := jn_len_take ls (i + n)
  have hlst := lst_length ms
  have hnwl : (nw ls n ms).length ≤ m + 1 := by unfold nw; split <;> omega
  have hcl : NoLf (nw ls n ms) := nw_clean hcl0
  have hjl := rep_jn_len ls (nw ls n ms) i n hi
  have hsz' : (jn (nw ls n ms)).length ≤ 4000000000000000 := by
    unfold nw; split
    · unfold lst; split
      · simp [jn]
      · exact hsz
    · exact hsz
  by_cases hn : n = ls.length
  · -- all lines are replaced
    have hnz : ((n : Int) == (ls.length : Int)) = true := by simp; omega
    have HN := Lib.hid hn
    clear hn
    have hw1 : IntKind.i64.wrap ((i : Int) + (n : Int)) = (i : Int) + (n : Int) := by rw [IntKind.wrap_i64]; omega
    go_enter Tryz.func13, Tryz.ntmps13
    go_wp2_with fail
    refine hyes.mono ?_
    rintro e w' ⟨rfl, rfl⟩
    clear hyes
    go_wp2_with fail
    refine hcnt.mono ?_
    rintro e w' ⟨rfl, rfl⟩
    clear hcnt
    go_wp2_with fail
    refine hleast.mono ?_
    rintro e w1 ⟨a1, m1, c1, rfl, hm1, hb1⟩
    rw [show lst ms = nw ls n ms by rw [nw, if_pos HN.out]] at hm1
    clear hleast hm hnz
    have hs1 := hb1.size
    have hlen1 := hm1.length
    have cs1 := hcs w1 hb1
    have hs1' := hst w1 hb1
    have hs2' := hst2 w1 hb1
    have hby1 := hby w1 hb1
    have hen := ended_full a1 m1 c1 (nw ls n ms) (4096 - (((jn ls).length : Int) - (((jn (ls.take (i + n))).length : Int) - ((jn (ls.take i)).length : Int)))) w1 hm1 (by omega) hcl (by omega) (by omega)
    have hB1 := Lib.hid hb1
    clear hst hst2 hby hcs hb hx h hm1 hb1
    generalize hgf : (jn (ls.take i)).length = f at *
    generalize hgg : (jn (ls.take (i + n))).length = g at *
    have hw2 : IntKind.i64.wrap ((g : Int) - (f : Int)) = (g : Int) - f := by rw [IntKind.wrap_i64]; omega
    have hw3 : IntKind.i64.wrap (((jn ls).length : Int) - ((g : Int) - f)) = ((jn ls).length : Int) - ((g : Int) - f) := by rw [IntKind.wrap_i64]; omega
    have hw4 : IntKind.i64.wrap (4096 - (((jn ls).length : Int) - ((g : Int) - f))) = 4096 - (((jn ls).length : Int) - ((g : Int) - f)) := by rw [IntKind.wrap_i64]; omega
    go_wp2_with fail
    refine hs1'.mono ?_
    rintro e w' ⟨rfl, rfl⟩
    clear hs1'
    go_wp2_with fail
    refine hs2'.mono ?_
    rintro e w' ⟨rfl, rfl⟩
    clear hs2'
    go_wp2_with fail
    refine hby1.mono ?_
    rintro e w' ⟨rfl, rfl⟩
    clear hby1
    go_wp2_with fail
    refine hen.mono ?_
    rintro e w2 ⟨rfl, rfl⟩
    clear hen
    go_wp2
    go_ret
    exact ⟨rfl, hB1.out⟩
  · -- some lines are left
    have hnz : ((n : Int) == (ls.length : Int)) = false := by simp; omega
    have hw1 : IntKind.i64.wrap ((i : Int) + (n : Int)) = (i : Int) + (n : Int) := by rw [IntKind.wrap_i64]; omega
    go_enter Tryz.func13, Tryz.ntmps13
    go_wp2_with fail
    refine hyes.mono ?_
    rintro e w' ⟨rfl, rfl⟩
    clear hyes
    go_wp2_with fail
    refine hcnt.mono ?_
    rintro e w' ⟨rfl, rfl⟩
    clear hcnt
    obtain ⟨w1, rfl⟩ : ∃ w1, w = w1 := ⟨_, rfl⟩
    obtain ⟨a1, m1, c1, hm1, hb1, ea⟩ : ∃ a1 m1 c1, Ss w a1 m1 c1 (nw ls n ms) ∧ Below w.heap.size w w ∧ (a1 = a ∧ m1 = m ∧ c1 = c) := ⟨a, m, c, by rw [nw, if_neg hn]; exact hm, Below.refl _ _, rfl, rfl, rfl⟩
    obtain ⟨rfl, rfl, rfl⟩ := ea
    clear hleast hm hnz
    have hs1 := hb1.size
    have hlen1 := hm1.length
    have cs1 := hcs w hb1
    have hs1' := hst w hb1
    have hs2' := hst2 w hb1
    have hby1 := hby w hb1
    have hen := ended_full a1 m1 c1 (nw ls n ms) (4096 - (((jn ls).length : Int) - (((jn (ls.take (i + n))).length : Int) - ((jn (ls.take i)).length : Int)))) w hm1 (by omega) hcl (by omega) (by omega)
    have hB1 := Lib.hid hb1
    clear hst hst2 hby hcs hb hx h hm1 hb1
    generalize hgf : (jn (ls.take i)).length = f at *
    generalize hgg : (jn (ls.take (i + n))).length = g at *
    have hw2 : IntKind.i64.wrap ((g : Int) - (f : Int)) = (g : Int) - f := by rw [IntKind.wrap_i64]; omega
    have hw3 : IntKind.i64.wrap (((jn ls).length : Int) - ((g : Int) - f)) = ((jn ls).length : Int) - ((g : Int) - f) := by rw [IntKind.wrap_i64]; omega
    have hw4 : IntKind.i64.wrap (4096 - (((jn ls).length : Int) - ((g : Int) - f))) = 4096 - (((jn ls).length : Int) - ((g : Int) - f)) := by rw [IntKind.wrap_i64]; omega
    go_wp2_with fail
    refine hs1'.mono ?_
    rintro e w' ⟨rfl, rfl⟩
    clear hs1'
    go_wp2_with fail
    refine hs2'.mono ?_
    rintro e w' ⟨rfl, rfl⟩
    clear hs2'
    go_wp2_with fail
    refine hby1.mono ?_
    rintro e w' ⟨rfl, rfl⟩
    clear hby1
    go_wp2_with fail
    refine hen.mono ?_
    rintro e w2 ⟨rfl, rfl⟩
    clear hen
    go_wp2
    go_ret
    exact ⟨rfl, hB1.out⟩

set_option maxHeartbeats 2000000 in
theorem replace_ok (h : Buf w base b F ls edits np used) (i n : Nat) (a : Option Addr) (m c : Nat) (ms : List ByteArray) (hm : Ss w a m c ms) (hi : i + n ≤ ls.length) (hm5 : m ≤ 100000) (hcl0 : NoLf ms) (hfit : (jn (rep ls i n (nw ls n ms))).length ≤ 4096) (hu : used ≤ 94000) :
    Calls Tryz.prog 13 #[.pointer (some ⟨b, 0, none⟩), .int .i64 i, .int .i64 n, .slice a m c] w fun e w' => e = .returned (.int .i64 0) ∧ BCh w base b F (rep ls i n (nw ls n ms)) (used + (jn (nw ls n ms)).length + 2) w' := by
  have hf := h.facts
  have hlen := hm.length
  have hle := jn_len_ge ls
  have hyes := has_yes h i n (by unfold Has; omega)
  have hcnt := count_any h
  have hleast := least_any a m c ms w hm (by omega)
  have hbk : ∃ (t x : Nat) (Fx : Nat → Prop), w.heap[b]? = some (.cells #[.pointer (some ⟨t, 0, none⟩), .pointer (some ⟨x, 0, none⟩)] TBuf (0, 0)) ∧ Lx.Idx w base x Fx (jn ls) := by
    obtain ⟨t, x, Ft, Fx, hb, hbb, ht, hx, _⟩ := h
    exact ⟨t, x, Fx, hb, hx⟩
  obtain ⟨t, x, Fx, hb, hx⟩ := hbk
  have hst : ∀ w1, Below w.heap.size w w1 → Calls Tryz.prog 30 #[.pointer (some ⟨x, 0, none⟩), .int .i64 i] w1 fun e w' => e = .returned (.tuple #[.int .i64 (jn (ls.take i)).length, .bool true]) ∧ w1 = w' := fun w1 hb1 => by
    have := (hx.below hb1).start i (by rw [st_jn_length ls hf.2.1]; omega) (by omega)
    rwa [at0_jn ls hf.2.1 i (by omega)] at this
  have hst2 : ∀ w1, Below w.heap.size w w1 → Calls Tryz.prog 30 #[.pointer (some ⟨x, 0, none⟩), .int .i64 ((i : Int) + (n : Int))] w1 fun e w' => e = .returned (.tuple #[.int .i64 (jn (ls.take (i + n))).length, .bool true]) ∧ w1 = w' := fun w1 hb1 => by
    have := (hx.below hb1).start (i + n) (by rw [st_jn_length ls hf.2.1]; omega) (by omega)
    rw [at0_jn ls hf.2.1 (i + n) (by omega)] at this
    exact this
  have hcs : ∀ w1, Below w.heap.size w w1 → w1.cell? ⟨b, 1, none⟩ = some (.pointer (some ⟨x, 0, none⟩)) := fun w1 hb1 => by
    have hlt := (Array.getElem?_eq_some_iff.1 hb).1
    exact (hb1.cell hlt).trans (head_cells hb).2
  have hby : ∀ w1, Below w.heap.size w w1 → _ := fun w1 hb1 => bytes_any (h.below hb1)
  have hfl := jn_len_mono ls (show i ≤ i + n by omega)
  have hgl := jn_len_take ls (i + n)
  have hlst := lst_length ms
  have hnwl : (nw ls n ms).length ≤ m + 1 := by unfold nw; split <;> omega
  have hcl : NoLf (nw ls n ms) := nw_clean hcl0
  have hjl := rep_jn_len ls (nw ls n ms) i n hi
  by_cases hn : n = ls.length
  · -- all lines are replaced
    have hnz : ((n : Int) == (ls.length : Int)) = true := by simp; omega
    have HN := Lib.hid hn
    clear hn
    have hw1 : IntKind.i64.wrap ((i : Int) + (n : Int)) = (i : Int) + (n : Int) := by rw [IntKind.wrap_i64]; omega
    go_enter Tryz.func13, Tryz.ntmps13
    go_wp2_with fail
    refine hyes.mono ?_
    rintro e w' ⟨rfl, rfl⟩
    clear hyes
    go_wp2_with fail
    refine hcnt.mono ?_
    rintro e w' ⟨rfl, rfl⟩
    clear hcnt
    go_wp2_with fail
    refine hleast.mono ?_
    rintro e w1 ⟨a1, m1, c1, rfl, hm1, hb1⟩
    rw [show lst ms = nw ls n ms by rw [nw, if_pos HN.out]] at hm1
    clear hleast hm hnz
    have hs1 := hb1.size
    have hlen1 := hm1.length
    have cs1 := hcs w1 hb1
    have hs1' := hst w1 hb1
    have hs2' := hst2 w1 hb1
    have hby1 := hby w1 hb1
    have hen := ended_ok a1 m1 c1 (nw ls n ms) (4096 - (((jn ls).length : Int) - (((jn (ls.take (i + n))).length : Int) - ((jn (ls.take i)).length : Int)))) w1 hm1 (by omega) hcl (by omega) (by omega)
    have hB1 := Lib.hid hb1
    have HM := Lib.hid h
    clear hst hst2 hby hcs hb hx h hm1 hb1
    generalize hgf : (jn (ls.take i)).length = f at *
    generalize hgg : (jn (ls.take (i + n))).length = g at *
    have hw2 : IntKind.i64.wrap ((g : Int) - (f : Int)) = (g : Int) - f := by rw [IntKind.wrap_i64]; omega
    have hw3 : IntKind.i64.wrap (((jn ls).length : Int) - ((g : Int) - f)) = ((jn ls).length : Int) - ((g : Int) - f) := by rw [IntKind.wrap_i64]; omega
    have hw4 : IntKind.i64.wrap (4096 - (((jn ls).length : Int) - ((g : Int) - f))) = 4096 - (((jn ls).length : Int) - ((g : Int) - f)) := by rw [IntKind.wrap_i64]; omega
    go_wp2_with fail
    refine hs1'.mono ?_
    rintro e w' ⟨rfl, rfl⟩
    clear hs1'
    go_wp2_with fail
    refine hs2'.mono ?_
    rintro e w' ⟨rfl, rfl⟩
    clear hs2'
    go_wp2_with fail
    refine hby1.mono ?_
    rintro e w' ⟨rfl, rfl⟩
    clear hby1
    go_wp2_with fail
    refine hen.mono ?_
    rintro e w2 ⟨rfl, hb2⟩
    have HB2 := Lib.hid (hB1.out.trans (hb2.mono hs1))
    have hex := exchange_any (HM.out.below HB2.out) f (g - f) ⟨(jn (nw ls n ms)).toArray⟩ (rep ls i n (nw ls n ms)) (by omega) (by
      rw [rep_jn ls _ i n hi, hgf, hgg, of_bytes, show f + (g - f) = g by omega]) (rep_clean i n hf.2.1 hcl) (by rw [← nw_rep ls ms i n hi]; exact lst_ne _) hfit (by rw [of_size]; omega)
    rw [show ((g - f : Nat) : Int) = (g : Int) - f by omega, of_size] at hex
    have hs2 := hb2.size
    clear hen hb2
    generalize (⟨(jn (nw ls n ms)).toArray⟩ : ByteArray) = tx at *
    go_wp2_with fail
    refine hex.mono ?_
    rintro e w3 ⟨rfl, hch⟩
    have HC := Lib.hid hch
    clear hex hch
    go_wp2
    go_ret
    obtain ⟨F', e', n', h1, h2, h3⟩ := HC.out
    exact ⟨rfl, F', e', n', h1, (Fr.ofBelow HB2.out F).trans h2, fun k hk => (h3 k hk).imp id (fun h => by omega)⟩
  · -- some lines are left
    have hnz : ((n : Int) == (ls.length : Int)) = false := by simp; omega
    have hw1 : IntKind.i64.wrap ((i : Int) + (n : Int)) = (i : Int) + (n : Int) := by rw [IntKind.wrap_i64]; omega
    go_enter Tryz.func13, Tryz.ntmps13
    go_wp2_with fail
    refine hyes.mono ?_
    rintro e w' ⟨rfl, rfl⟩
    clear hyes
    go_wp2_with fail
    refine hcnt.mono ?_
    rintro e w' ⟨rfl, rfl⟩
    clear hcnt
    obtain ⟨w1, rfl⟩ : ∃ w1, w = w1 := ⟨_, rfl⟩
    obtain ⟨a1, m1, c1, hm1, hb1, ea⟩ : ∃ a1 m1 c1, Ss w a1 m1 c1 (nw ls n ms) ∧ Below w.heap.size w w ∧ (a1 = a ∧ m1 = m ∧ c1 = c) := ⟨a, m, c, by rw [nw, if_neg hn]; exact hm, Below.refl _ _, rfl, rfl, rfl⟩
    obtain ⟨rfl, rfl, rfl⟩ := ea
    clear hleast hm hnz
    have hs1 := hb1.size
    have hlen1 := hm1.length
    have cs1 := hcs w hb1
    have hs1' := hst w hb1
    have hs2' := hst2 w hb1
    have hby1 := hby w hb1
    have hen := ended_ok a1 m1 c1 (nw ls n ms) (4096 - (((jn ls).length : Int) - (((jn (ls.take (i + n))).length : Int) - ((jn (ls.take i)).length : Int)))) w hm1 (by omega) hcl (by omega) (by omega)
    have hB1 := Lib.hid hb1
    have HM := Lib.hid h
    clear hst hst2 hby hcs hb hx h hm1 hb1
    generalize hgf : (jn (ls.take i)).length = f at *
    generalize hgg : (jn (ls.take (i + n))).length = g at *
    have hw2 : IntKind.i64.wrap ((g : Int) - (f : Int)) = (g : Int) - f := by rw [IntKind.wrap_i64]; omega
    have hw3 : IntKind.i64.wrap (((jn ls).length : Int) - ((g : Int) - f)) = ((jn ls).length : Int) - ((g : Int) - f) := by rw [IntKind.wrap_i64]; omega
    have hw4 : IntKind.i64.wrap (4096 - (((jn ls).length : Int) - ((g : Int) - f))) = 4096 - (((jn ls).length : Int) - ((g : Int) - f)) := by rw [IntKind.wrap_i64]; omega
    go_wp2_with fail
    refine hs1'.mono ?_
    rintro e w' ⟨rfl, rfl⟩
    clear hs1'
    go_wp2_with fail
    refine hs2'.mono ?_
    rintro e w' ⟨rfl, rfl⟩
    clear hs2'
    go_wp2_with fail
    refine hby1.mono ?_
    rintro e w' ⟨rfl, rfl⟩
    clear hby1
    go_wp2_with fail
    refine hen.mono ?_
    rintro e w2 ⟨rfl, hb2⟩
    have HB2 := Lib.hid (hB1.out.trans (hb2.mono hs1))
    have hex := exchange_any (HM.out.below HB2.out) f (g - f) ⟨(jn (nw ls n ms)).toArray⟩ (rep ls i n (nw ls n ms)) (by omega) (by
      rw [rep_jn ls _ i n hi, hgf, hgg, of_bytes, show f + (g - f) = g by omega]) (rep_clean i n hf.2.1 hcl) (by rw [← nw_rep ls ms i n hi]; exact lst_ne _) hfit (by rw [of_size]; omega)
    rw [show ((g - f : Nat) : Int) = (g : Int) - f by omega, of_size] at hex
    have hs2 := hb2.size
    clear hen hb2
    generalize (⟨(jn (nw ls n ms)).toArray⟩ : ByteArray) = tx at *
    go_wp2_with fail
    refine hex.mono ?_
    rintro e w3 ⟨rfl, hch⟩
    have HC := Lib.hid hch
    clear hex hch
    go_wp2
    go_ret
    obtain ⟨F', e', n', h1, h2, h3⟩ := HC.out
    exact ⟨rfl, F', e', n', h1, (Fr.ofBelow HB2.out F).trans h2, fun k hk => (h3 k hk).imp id (fun h => by omega)⟩

end
end Go.Proofs.YtfllgmgipmmpkaaGreatDoor.Bf
