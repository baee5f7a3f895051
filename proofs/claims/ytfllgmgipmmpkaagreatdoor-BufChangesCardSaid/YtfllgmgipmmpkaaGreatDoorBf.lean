/-
  Buffers: what one is, told by its lines; the readers.
-/
import Derived.Test.YtfllgmgipmmpkaaGreatDoorSlice
import Derived.Test.YtfllgmgipmmpkaaGreatDoorLd
import Derived.Test.YtfllgmgipmmpkaaGreatDoorTe
set_option linter.unusedVariables false
set_option linter.unusedSimpArgs false
set_option maxRecDepth 100000
namespace Go.Proofs.YtfllgmgipmmpkaaGreatDoor.Bf
open Go Go.RowKit Go.Proofs.YtfllgmgipmmpkaaGreatDoor.Vk Go.Proofs.YtfllgmgipmmpkaaGreatDoor.Tm Go.Proofs.YtfllgmgipmmpkaaGreatDoor.Tf Go.Proofs.YtfllgmgipmmpkaaGreatDoor.Lm Go.Shelf
attribute [local go_sem] Oper.semAt_some

abbrev TBuf : TypeId := 62

/-- A buffer at block b of the lines ls; its blocks are those of F; its table has seen `edits` edits and has np pieces. -/
def Buf (w : World) (base b : Nat) (F : Nat → Prop) (ls : List ByteArray) (edits np used : Nat) : Prop :=
  ∃ t x Ft Fx, w.heap[b]? = some (.cells #[.pointer (some ⟨t, 0, none⟩), .pointer (some ⟨x, 0, none⟩)] TBuf (0, 0)) ∧ base ≤ b ∧ Tb.Tab w base t Ft (jn ls) 4096 edits np used ∧ Lx.Idx w base x Fx (jn ls) ∧
    (∀ k, Ft k → ¬ Fx k) ∧ ¬ Ft b ∧ ¬ Fx b ∧ F = (fun k => k = b ∨ Ft k ∨ Fx k) ∧ NoLf ls ∧ ls ≠ []

section
variable {w w' : World} {base b : Nat} {F S : Nat → Prop} {ls : List ByteArray} {edits np used : Nat}

theorem head_cells {t x : Value} (h : w.heap[b]? = some (.cells #[t, x] TBuf (0, 0))) : w.cell? ⟨b, 0, none⟩ = some t ∧ w.cell? ⟨b, 1, none⟩ = some x := by
  constructor <;> simp [World.cell?, h]

theorem Buf.lt (h : Buf w base b F ls edits np used) {k : Nat} (hk : F k) : base ≤ k ∧ k < w.heap.size := by
  obtain ⟨t, x, Ft, Fx, hb, hbb, ht, hx, hd, hd1, hd2, rfl, hc, h0⟩ := h
  rcases hk with rfl | hk | hk
  · exact ⟨hbb, (Array.getElem?_eq_some_iff.1 hb).1⟩
  · exact ht.lt hk
  · exact hx.footLt k hk
theorem Buf.fr (h : Buf w base b F ls edits np used) (hf : Fr S w w') (hs : ∀ k, F k → ¬ S k) : Buf w' base b F ls edits np used := by
  obtain ⟨t, x, Ft, Fx, hb, hbb, ht, hx, hd, hd1, hd2, rfl, hc, h0⟩ := h
  have hlt := (Array.getElem?_eq_some_iff.1 hb).1
  exact ⟨t, x, Ft, Fx, (hf.block b hlt (hs b (.inl rfl))).trans hb, hbb, ht.fr hf (fun k hk => hs k (.inr (.inl hk))), hx.fr hf (fun k hk => hs k (.inr (.inr hk))), hd, hd1, hd2, rfl, hc, h0⟩
theorem Buf.below (h : Buf w base b F ls edits np used) (hb : Below w.heap.size w w') : Buf w' base b F ls edits np used :=
  h.fr (Fr.ofBelow hb (fun _ => False)) (by simp)
theorem Buf.mono {base' : Nat} (h : Buf w base b F ls edits np used) (hb : base' ≤ base) : Buf w base' b F ls edits np used := by
  obtain ⟨t, x, Ft, Fx, hbk, hbb, ht, hx, rest⟩ := h
  exact ⟨t, x, Ft, Fx, hbk, Nat.le_trans hb hbb, ht.base_mono hb, hx.mono hb, rest⟩
theorem Buf.facts (h : Buf w base b F ls edits np used) : (jn ls).length ≤ 4096 ∧ NoLf ls ∧ ls ≠ [] ∧ np ≤ 2 * edits + 1 ∧ edits ≤ used ∧ F b := by
  obtain ⟨t, x, Ft, Fx, hb, hbb, ht, hx, hd, hd1, hd2, rfl, hc, h0⟩ := h
  have := ht.facts
  exact ⟨by omega, hc, h0, this.2.2.2.1, this.2.2.1, .inl rfl⟩

theorem count_any (h : Buf w base b F ls edits np used) : Calls Tryz.prog 22 #[.pointer (some ⟨b, 0, none⟩)] w fun e w' => e = .returned (.int .i64 ls.length) ∧ w = w' := by
  have hf := h.facts
  obtain ⟨t, x, Ft, Fx, hb, hbb, ht, hx, hd, hd1, hd2, rfl, hc, h0⟩ := h
  obtain ⟨c0, c1⟩ := head_cells hb
  have hl := hx.lines
  rw [st_jn_length ls hc] at hl
  have hle := jn_len_ge ls
  have hw1 : IntKind.i64.wrap (((ls.length + 1 : Nat) : Int) - 1) = ls.length := by rw [IntKind.wrap_i64]; omega
  have hw2 : IntKind.i64.wrap ((ls.length : Int) + 1 - 1) = ls.length := by rw [IntKind.wrap_i64]; omega
  clear hb ht hx hd hd1 hd2
  go_enter Tryz.func22, Tryz.ntmps22
  go_wp2_with fail
  refine hl.mono ?_
  rintro e w' ⟨rfl, rfl⟩
  clear hl
  go_wp2
  go_ret
  exact ⟨rfl, rfl⟩

theorem bytes_any (h : Buf w base b F ls edits np used) : Calls Tryz.prog 20 #[.pointer (some ⟨b, 0, none⟩)] w fun e w' => e = .returned (.int .i64 (jn ls).length) ∧ w = w' := by
  obtain ⟨t, x, Ft, Fx, hb, hbb, ht, hx, hd, hd1, hd2, rfl, hc, h0⟩ := h
  obtain ⟨c0, c1⟩ := head_cells hb
  have hl := Tb.tlen ht
  clear hb ht hx hd hd1 hd2
  go_enter Tryz.func20, Tryz.ntmps20
  go_wp2_with fail
  refine hl.mono ?_
  rintro e w' ⟨rfl, rfl⟩
  clear hl
  go_wp2
  go_ret
  exact ⟨rfl, rfl⟩
theorem pieces_any (h : Buf w base b F ls edits np used) : Calls Tryz.prog 23 #[.pointer (some ⟨b, 0, none⟩)] w fun e w' => e = .returned (.int .i64 np) ∧ w = w' := by
  obtain ⟨t, x, Ft, Fx, hb, hbb, ht, hx, hd, hd1, hd2, rfl, hc, h0⟩ := h
  obtain ⟨c0, c1⟩ := head_cells hb
  have hl := Tb.tpieces ht
  clear hb ht hx hd hd1 hd2
  go_enter Tryz.func23, Tryz.ntmps23
  go_wp2_with fail
  refine hl.mono ?_
  rintro e w' ⟨rfl, rfl⟩
  clear hl
  go_wp2
  go_ret
  exact ⟨rfl, rfl⟩
theorem edits_any (h : Buf w base b F ls edits np used) : Calls Tryz.prog 24 #[.pointer (some ⟨b, 0, none⟩)] w fun e w' => e = .returned (.int .i64 edits) ∧ w = w' := by
  obtain ⟨t, x, Ft, Fx, hb, hbb, ht, hx, hd, hd1, hd2, rfl, hc, h0⟩ := h
  obtain ⟨c0, c1⟩ := head_cells hb
  have hl := Tb.tedits ht
  clear hb ht hx hd hd1 hd2
  go_enter Tryz.func24, Tryz.ntmps24
  go_wp2_with fail
  refine hl.mono ?_
  rintro e w' ⟨rfl, rfl⟩
  clear hl
  go_wp2
  go_ret
  exact ⟨rfl, rfl⟩

def Has (ls : List ByteArray) (i n : Int) : Prop := 0 ≤ i ∧ i ≤ ls.length ∧ 0 ≤ n ∧ n ≤ ls.length - i
theorem has_yes (h : Buf w base b F ls edits np used) (i n : Int) (hh : Has ls i n) :
    Calls Tryz.prog 29 #[.pointer (some ⟨b, 0, none⟩), .int .i64 i, .int .i64 n] w fun e w' => e = .returned (.bool true) ∧ w = w' := by
  have hf := h.facts
  have hcnt := count_any h
  have hle := jn_len_ge ls
  unfold Has at hh
  obtain ⟨h1, h2, h3, h4⟩ := hh
  clear h
  generalize ls.length = m at *
  have hw : IntKind.i64.wrap ((m : Int) - i) = (m : Int) - i := by rw [IntKind.wrap_i64]; omega
  go_enter Tryz.func29, Tryz.ntmps29
  go_wp2_with fail
  refine hcnt.mono ?_
  rintro e w' ⟨rfl, rfl⟩
  go_wp2_with fail
  refine hcnt.mono ?_
  rintro e w' ⟨rfl, rfl⟩
  clear hcnt
  go_wp2
  go_ret
  exact ⟨by simp [h4], rfl⟩
theorem has_no (h : Buf w base b F ls edits np used) (i n : Int) (hh : ¬ Has ls i n) :
    Calls Tryz.prog 29 #[.pointer (some ⟨b, 0, none⟩), .int .i64 i, .int .i64 n] w fun e w' => e = .returned (.bool false) ∧ w = w' := by
  have hf := h.facts
  have hcnt := count_any h
  have hle := jn_len_ge ls
  unfold Has at hh
  clear h
  generalize ls.length = m at *
  by_cases h1 : 0 ≤ i
  · by_cases h2 : i ≤ m
    · by_cases h3 : 0 ≤ n
      · have h4 : ¬ n ≤ m - i := by omega
        have hw : IntKind.i64.wrap ((m : Int) - i) = (m : Int) - i := by rw [IntKind.wrap_i64]; omega
        clear hh
        go_enter Tryz.func29, Tryz.ntmps29
        go_wp2_with fail
        refine hcnt.mono ?_
        rintro e w' ⟨rfl, rfl⟩
        go_wp2_with fail
        refine hcnt.mono ?_
        rintro e w' ⟨rfl, rfl⟩
        clear hcnt
        go_wp2
        go_ret
        exact ⟨by simp [h4], rfl⟩
      · clear hh
        go_enter Tryz.func29, Tryz.ntmps29
        go_wp2_with fail
        refine hcnt.mono ?_
        rintro e w' ⟨rfl, rfl⟩
        clear hcnt
        go_wp2
        go_ret
        exact ⟨rfl, rfl⟩
    · clear hh
      go_enter Tryz.func29, Tryz.ntmps29
      go_wp2_with fail
      refine hcnt.mono ?_
      rintro e w' ⟨rfl, rfl⟩
      clear hcnt
      go_wp2
      go_ret
      exact ⟨rfl, rfl⟩
  · clear hh
    go_enter Tryz.func29, Tryz.ntmps29
    go_wp2
    go_ret
    exact ⟨rfl, rfl⟩

theorem line_out (h : Buf w base b F ls edits np used) (i : Int) (hi : ¬ (0 ≤ i ∧ i < ls.length)) :
    Calls Tryz.prog 21 #[.pointer (some ⟨b, 0, none⟩), .int .i64 i] w fun e w' => e = .returned (.tuple #[.string ⟨#[]⟩, .bool false]) ∧ w = w' := by
  have hh := has_no h i 1 (by unfold Has; omega)
  clear h
  go_enter Tryz.func21, Tryz.ntmps21
  go_wp2_with fail
  refine hh.mono ?_
  rintro e w' ⟨rfl, rfl⟩
  clear hh
  go_wp2
  go_ret2
  exact ⟨rfl, rfl⟩

theorem tslice' {t : Nat} {Ft : Nat → Prop} {T : List UInt8} {most : Int} (h : Tb.Tab w base t Ft T most edits np used) (off n : Nat) (ho : off + n ≤ T.length) (hT : T.length ≤ 100000) (hu : used ≤ 400000) :
    Calls Tryz.prog 39 #[.pointer (some ⟨t, 0, none⟩), .int .i64 off, .int .i64 n] w fun e w' => e = .returned (.tuple #[.string ⟨((T.drop off).take n).toArray⟩, .int .i64 0]) ∧ Below w.heap.size w w' := by
  have hf := h.facts
  obtain ⟨p, r, b0, c0, l0, b1, c1, l1, ps, hx, rfl, hl, rfl⟩ := h
  exact Tb.slice_any hx off n ho hT (by omega)

theorem line_in (h : Buf w base b F ls edits np used) (i : Nat) (hi : i < ls.length) (hu : used ≤ 400000) :
    Calls Tryz.prog 21 #[.pointer (some ⟨b, 0, none⟩), .int .i64 i] w fun e w' => e = .returned (.tuple #[.string ls[i], .bool true]) ∧ Below w.heap.size w w' := by
  have hf := h.facts
  have hh := has_yes h i 1 (by unfold Has; omega)
  obtain ⟨t, x, Ft, Fx, hb, hbb, ht, hx, hd, hd1, hd2, rfl, hc, h0⟩ := h
  obtain ⟨c0, c1⟩ := head_cells hb
  have hst := hx.start i (by rw [st_jn_length ls hc]; omega) (by omega)
  have hsz := hx.size i (by rw [st_jn_length ls hc]; omega) (by omega)
  rw [at0_jn ls hc i (by omega)] at hst
  rw [sz_jn ls hc i hi] at hsz
  have hnx := jn_len_next ls i hi
  have hle2 := jn_len_take ls (i + 1)
  have hsl := tslice' ht (jn (ls.take i)).length ls[i].size (by omega) (by omega) hu
  rw [line_jn ls i hi] at hsl
  have he : (⟨(ls[i].data.toList).toArray⟩ : ByteArray) = ls[i] := by simp
  rw [he] at hsl
  clear he hb ht hx hd hd1 hd2 hf hnx hle2
  generalize ls[i] = s at *
  generalize (jn (ls.take i)).length = o at *
  go_enter Tryz.func21, Tryz.ntmps21
  go_wp2_with fail
  refine hh.mono ?_
  rintro e w' ⟨rfl, rfl⟩
  clear hh
  go_wp2_with fail
  refine hst.mono ?_
  rintro e w' ⟨rfl, rfl⟩
  clear hst
  go_wp2_with fail
  refine hsz.mono ?_
  rintro e w' ⟨rfl, rfl⟩
  clear hsz
  go_wp2_with fail
  refine hsl.mono ?_
  rintro e w' ⟨rfl, hb'⟩
  clear hsl
  go_wp2
  go_ret2
  exact ⟨rfl, hb'⟩

end
end Go.Proofs.YtfllgmgipmmpkaaGreatDoor.Bf
