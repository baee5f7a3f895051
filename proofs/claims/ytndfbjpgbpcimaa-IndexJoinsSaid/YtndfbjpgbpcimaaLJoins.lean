/-
  The law IndexJoins, walked.
-/
import Derived.Test.YtndfbjpgbpcimaaLw
set_option linter.unusedVariables false
namespace Go.Proofs.Ytndfbjpgbpcimaa.LJoins
open Go Go.RowKit Go.Proofs.Ytndfbjpgbpcimaa.Vk Go.Proofs.Ytndfbjpgbpcimaa.Lm Go.Proofs.Ytndfbjpgbpcimaa.Lx Go.Shelf

theorem join_lines (a b : List UInt8) : (st (a ++ b)).length + 1 = (st a).length + (st b).length := by
  rw [st_length, st_length, st_length, List.count_append]; omega
theorem join_ln (a b : List UInt8) : ln (a ++ b) a.length + 1 = (st a).length := by
  rw [st_length, ln, List.take_left' rfl]
theorem join_at0 (a b : List UInt8) (k : Nat) (hk : k < (st a).length) : at0 (a ++ b) k = at0 a k := by
  unfold at0
  rw [st_append, List.getD_eq_getElem?_getD, List.getElem?_append_left hk, List.getD_eq_getElem?_getD]
theorem join_next (a b : List UInt8) (h : 1 < (st b).length) : at0 (a ++ b) (st a).length = a.length + at0 b 1 := by
  unfold at0
  rw [st_append, List.getD_eq_getElem?_getD, List.getElem?_append_right (Nat.le_refl _), Nat.sub_self, List.getD_eq_getElem?_getD]
  have h0 : bg a.length b = (bg 0 b).map (· + a.length) := by rw [← bg_shift, Nat.zero_add]
  rw [h0]
  simp only [st] at h ⊢
  cases hb : bg 0 b with
  | nil => rw [hb] at h; simp at h
  | cons x l => simp; omega
theorem join_sz (a b : List UInt8) (k : Nat) (hk : k + 1 = (st a).length) : sz (a ++ b) k = sz a k + sz b 0 := by
  have hj := join_lines a b
  have h0 := join_at0 a b k (by omega)
  have hb := at0_bound a k (by omega)
  have hs := st_pos b
  have hz := at0_zero b
  unfold sz
  by_cases h1 : 1 < (st b).length
  · have h2 := join_next a b h1
    rw [← hk] at h2
    have h3 := st_sorted b 0 1 (by omega) h1
    rw [if_pos (by omega), if_neg (by omega), if_pos (by omega)]
    simp only [Nat.zero_add]
    omega
  · rw [if_neg (by omega), if_neg (by omega), if_neg (by omega), h0, List.length_append]
    omega

theorem long (a b : ByteArray) (w : World) (ha : a.size ≤ 140737488355328) (hb : b.size ≤ 140737488355328) (h : 300 < a.size + b.size) :
    Calls Try.prog 7 #[.string a, .string b] w fun e w' => e = .returned (.bool true) ∧ Below w.heap.size w w' := by
  have hw_1 : IntKind.i64.wrap ((a.size : Int) + b.size) = (a.size : Int) + b.size := by rw [IntKind.wrap_i64]; omega
  have hd : decide (300 < (a.size : Int) + b.size) = true := by simp; omega
  go_enter Try.func7, Try.ntmps7
  go_wp2_with (go_at_call 8; refine (known_any _).mono ?_; rintro e w1 ⟨rfl, hb⟩)
  go_ret
  exact ⟨rfl, hb⟩

set_option maxHeartbeats 2000000 in
set_option maxRecDepth 100000 in
theorem short (a b : ByteArray) (w : World) (h : a.size + b.size ≤ 300) :
    Calls Try.prog 7 #[.string a, .string b] w fun e w' => e = .returned (.bool true) ∧ Below w.heap.size w w' := by
  have hw_1 : IntKind.i64.wrap ((a.size : Int) + b.size) = (a.size : Int) + b.size := by rw [IntKind.wrap_i64]; omega
  have hd : decide (300 < (a.size : Int) + b.size) = false := by simp; omega
  have hla : a.data.toList.length = a.size := by rw [Array.length_toList]; rfl
  have hlb : b.data.toList.length = b.size := by rw [Array.length_toList]; rfl
  have hab : (a ++ b).data.toList = a.data.toList ++ b.data.toList := by simp
  obtain ⟨ta, hta⟩ : ∃ t, t = a.data.toList := ⟨_, rfl⟩
  obtain ⟨tb, htb⟩ : ∃ t, t = b.data.toList := ⟨_, rfl⟩
  rw [← hta] at hla hab
  rw [← htb] at hlb hab
  have HA := Lib.hid (And.intro hta (And.intro htb hab))
  go_enter Try.func7, Try.ntmps7
  go_wp2_with (go_at_call 8; refine (known_any _).mono ?_; rintro e w0 ⟨rfl, hb0⟩)
  refine (new_any a w0 (by omega)).mono ?_
  rintro e w1 ⟨px, Fx, rfl, hx1, hb1⟩
  go_wp2_with fail
  refine (new_any b w1 (by omega)).mono ?_
  rintro e w2 ⟨py, Fy, rfl, hy2, hb2⟩
  go_wp2_with fail
  refine (new_any a w2 (by omega)).mono ?_
  rintro e w3 ⟨pz, Fz, rfl, hz3, hb3⟩
  rw [← hta] at hx1 hz3
  rw [← htb] at hy2
  have hs0 := hb0.size
  have hs1 := hb1.size
  have hs2 := hb2.size
  have hs3 := hb3.size
  have hbw3 : Below w.heap.size w w3 := hb0.trans ((hb1.mono hs0).trans ((hb2.mono (Nat.le_trans hs0 hs1)).trans (hb3.mono (Nat.le_trans hs0 (Nat.le_trans hs1 hs2)))))
  have hx3 : Idx w3 w0.heap.size px Fx ta := (hx1.below hb2).below hb3
  have hy3 : Idx w3 w1.heap.size py Fy tb := hy2.below hb3
  have hlx := fun k hk => (hx1.footLt k hk).2
  have hly := fun k hk => (hy2.footLt k hk).2
  have hins := insert_yes hz3 ta.length b (by omega) (by omega)
  rw [hla, ← hla, List.take_length, List.drop_length, List.append_nil, ← htb, hla] at hins
  have H3 := Lib.hid (And.intro hbw3 (And.intro hx3 (And.intro hy3 hz3)))
  clear hx1 hy2 hz3 hb0 hb1 hb2 hb3 hx3 hy3 hbw3 hta htb hab
  go_wp2_with fail
  refine hins.mono ?_
  rintro e w4 ⟨rfl, hc⟩
  obtain ⟨hbw3, hx3, hy3, hz3⟩ := H3.out
  have hb34 : Below w2.heap.size w3 w4 := hc.below hs3 (fun k hk => (hz3.footLt k hk).1)
  obtain ⟨Fz', hz4, hfz, -⟩ := hc
  have hx4 : Idx w4 w0.heap.size px Fx ta := hx3.fr hfz (fun k hk hk2 => by have := (hz3.footLt k hk2).1; have := hlx k hk; omega)
  have hy4 : Idx w4 w1.heap.size py Fy tb := hy3.fr hfz (fun k hk hk2 => by have := (hz3.footLt k hk2).1; have := hly k hk; omega)
  have hbw4 : Below w.heap.size w w4 := hbw3.trans (hb34.mono (by omega))
  have hs4 := hb34.size
  have jl := join_lines ta tb
  have jn := join_ln ta tb
  have jpa := st_pos ta
  have jpb := st_pos tb
  have jza := st_length_le ta
  have jzb := st_length_le tb
  obtain ⟨L, hL⟩ : ∃ L, (st ta).length = L + 1 := ⟨(st ta).length - 1, by omega⟩
  have jla : ln (ta ++ tb) ta.length = L := by omega
  have js := join_sz ta tb L (by omega)
  have ja := join_at0 ta tb L (by omega)
  have jsa : sz ta L = ta.length - at0 ta L := by unfold sz; rw [if_neg (by omega)]
  have jab := at0_bound ta L (by omega)
  have jsb := sz_eq tb 0 jpb
  obtain ⟨M, hM⟩ : ∃ M, (st tb).length = M + 1 := ⟨(st tb).length - 1, by omega⟩
  have hN : (st (ta ++ tb)).length = L + M + 1 := by omega
  have hlen : (ta ++ tb).length = a.size + b.size := by simp; omega
  have lx := hx4.lines
  have ly := hy4.lines
  have lz := hz4.lines
  have nx := hx4.len
  have ny := hy4.len
  have nz := hz4.len
  have sx := hx4.size L (by omega) (by omega)
  have sy := hy4.size 0 (by omega) (by omega)
  have sz' := hz4.size L (by omega) (by omega)
  have az := hz4.at ta.length (by omega) (by omega)
  rw [hL] at lx
  rw [hM] at ly
  rw [hN] at lz
  rw [hla] at nx
  rw [hlb] at ny
  rw [hlen] at nz
  rw [js] at sz'
  rw [jla, ja, ← jsa, hla] at az
  have hkb : sz ta L ≤ 300 := by omega
  have hnb : sz tb 0 ≤ 300 := by omega
  have hLb : L ≤ 300 := by omega
  have hMb : M ≤ 300 := by omega
  generalize sz ta L = k0 at *
  generalize sz tb 0 = n0 at *
  have H4 := Lib.hid (And.intro hbw4 (And.intro hx4 hz4))
  have e1 : (((a.size + b.size : Nat) : Int)) = (a.size : Int) + b.size := by omega
  have e2 : (((k0 + n0 : Nat) : Int)) = (k0 : Int) + n0 := by omega
  have e3 : (((L + M + 1 : Nat) : Int)) = (L : Int) + M + 1 := by omega
  have e4 : (((L + 1 : Nat) : Int)) = (L : Int) + 1 := by omega
  have e5 : (((M + 1 : Nat) : Int)) = (M : Int) + 1 := by omega
  have HLE := Lib.hid (And.intro hL e4)
  rw [e1] at nz
  rw [e2] at sz'
  rw [e3] at lz
  rw [e4] at lx
  rw [e5] at ly
  clear hins hx3 hy3 hz3 hbw3 hb34 hz4 hfz hx4 hy4 hbw4 jl jn jpa jpb jza jzb jla js ja jsa jab jsb hN hlen hL hM e1 e2 e3 e4 e5 hlx hly
  have v1 : IntKind.i64.wrap ((L : Int) + 1 + ((M : Int) + 1)) = (L : Int) + 1 + ((M : Int) + 1) := by rw [IntKind.wrap_i64]; omega
  have v2 : IntKind.i64.wrap ((L : Int) + 1 + ((M : Int) + 1) - 1) = (L : Int) + M + 1 := by rw [IntKind.wrap_i64]; omega
  have v3 : IntKind.i64.wrap ((L : Int) + 1 - 1) = (L : Int) := by rw [IntKind.wrap_i64]; omega
  have v4 : IntKind.i64.wrap ((k0 : Int) + n0) = (k0 : Int) + n0 := by rw [IntKind.wrap_i64]; omega
  go_wp2_with fail
  refine lz.mono ?_
  rintro e w' ⟨rfl, rfl⟩
  go_wp2_with fail
  refine lx.mono ?_
  rintro e w' ⟨rfl, rfl⟩
  go_wp2_with fail
  refine ly.mono ?_
  rintro e w' ⟨rfl, rfl⟩
  go_wp2_with fail
  refine nz.mono ?_
  rintro e w' ⟨rfl, rfl⟩
  go_wp2_with fail
  refine nx.mono ?_
  rintro e w' ⟨rfl, rfl⟩
  go_wp2_with fail
  refine ny.mono ?_
  rintro e w' ⟨rfl, rfl⟩
  go_wp2_with fail
  refine lx.mono ?_
  rintro e w' ⟨rfl, rfl⟩
  go_wp2_with fail
  refine sx.mono ?_
  rintro e w' ⟨rfl, rfl⟩
  go_wp2_with fail
  refine sy.mono ?_
  rintro e w' ⟨rfl, rfl⟩
  go_wp2_with fail
  refine lx.mono ?_
  rintro e w' ⟨rfl, rfl⟩
  go_wp2_with fail
  refine sz'.mono ?_
  rintro e w' ⟨rfl, rfl⟩
  go_wp2_with fail
  refine az.mono ?_
  rintro e w5 ⟨rfl, hb5⟩
  obtain ⟨hbw4, hx4, hz4⟩ := H4.out
  obtain ⟨W, hW⟩ : ∃ W, W = (w5.alloc (.cells #[.int .i64 L, .int .i64 k0] 33)).drew := ⟨_, rfl⟩
  have hs5 := hb5.size
  have hbW : Below w4.heap.size w4 W := by rw [hW]; exact (hb5.alloc hs5 _).drew
  have hpW : W.heap[w5.heap.size]? = some (.cells #[.int .i64 L, .int .i64 k0] 33 (0, 0)) := by rw [hW]; exact heap_alloc_new w5 _
  have c0 : W.cell? ⟨w5.heap.size, 0, none⟩ = some (.int .i64 L) := (cell_of_row _ _ 0 _ _ _ hpW).trans (by simp)
  have c1 : W.cell? ⟨w5.heap.size, 1, none⟩ = some (.int .i64 k0) := (cell_of_row _ _ 1 _ _ _ hpW).trans (by simp)
  have lxW := ((hx4.below hbW).lines).mono fun e w' (h : e = _ ∧ W = w') => (⟨h.1, h.2.symm⟩ : e = _ ∧ w' = W)
  rw [HLE.out.1, HLE.out.2] at lxW
  have hwW := whole_any (a ++ b) (by rw [HA.out.2.2]; exact hz4.below hbW) (by simp; omega)
  have v5 : IntKind.i64.wrap (L : Int) = (L : Int) := by rw [IntKind.wrap_i64]; omega
  have hcap : ¬ (9223372036854775807 < a.size + b.size) := by omega
  have hLL : ((L : Int) == (L : Int)) = true := beq_self_eq_true _
  have hkk : ((k0 : Int) == (k0 : Int)) = true := beq_self_eq_true _
  have HW := Lib.hid (hbw4.trans (hbW.mono hbw4.size))
  clear hbw4 hx4 hz4 hb5 hbW hpW lx ly lz nx ny nz sx sy sz' az
  go_wp2
  refine wp_tail 31 (by kernel_rfl) (by kernel_rfl) ?_
  rw [← hW]
  clear hW
  simp only [List.take_succ_cons, List.take_zero, List.drop_succ_cons, List.drop_zero]
  repeat (first | still_step | still_call lxW)
  refine wpStill_nil ?_
  go_wp2_with fail
  refine hwW.mono ?_
  rintro e w6 ⟨rfl, hb6⟩
  have HB6 := Lib.hid hb6
  clear hb6 hwW lxW
  go_wp2
  go_ret
  exact ⟨rfl, HW.out.trans (HB6.out.mono HW.out.size)⟩

theorem walk (a b : ByteArray) (w : World) (ha : a.size ≤ 140737488355328) (hb : b.size ≤ 140737488355328) :
    Calls Try.prog 7 #[.string a, .string b] w fun e w' => e = .returned (.bool true) ∧ Below w.heap.size w w' := by
  by_cases h : 300 < a.size + b.size
  · exact long a b w ha hb h
  · exact short a b w (by omega)

end Go.Proofs.Ytndfbjpgbpcimaa.LJoins
