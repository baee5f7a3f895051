/-
  Indexes of lines: cut; the two iterators that add goes through.
-/
import Derived.Test.YtfllgmgipmmpkaaGreatDoorLs
import Derived.Test.YtfllgmgipmmpkaaGreatDoorRnd
import Derived.StillTailTactics
set_option linter.unusedVariables false
set_option linter.unusedSimpArgs false
set_option maxRecDepth 100000
namespace Go.Proofs.YtfllgmgipmmpkaaGreatDoor.Lx
open Go Go.RowKit Go.Proofs.YtfllgmgipmmpkaaGreatDoor.Vk Go.Proofs.YtfllgmgipmmpkaaGreatDoor.Lm Go.Shelf
open VecI (E)
attribute [local go_sem] Oper.semAt_some

section
variable {w w' : World} {base p q : Nat} {r : Option Nat} {zs : List Int} {size : Int}

theorem iv_take (zs : List Int) (k : Nat) : iv (zs.take k) = (iv zs).take k := by simp [iv]
theorem iv_drop (zs : List Int) (k : Nat) : iv (zs.drop k) = (iv zs).drop k := by simp [iv]

/-- What Delete of the list's tail comes to. -/
theorem vcut (h : Ix w base p q r zs size) (k : Nat) (hk : k ≤ zs.length) (hn : zs.length ≤ 1000000) :
    Calls Tryz.prog 86 #[.pointer (some ⟨q, 0, none⟩), .int .i64 k, .int .i64 ((zs.length : Int) - k)] w fun e w' => ∃ b c, e = .returned (.slice b (zs.length - k) c) ∧
      w'.ownsRow w.heap.size E 1 (.slice b (zs.length - k) c) (zs.length - k) (iv (zs.drop k)) ∧ Ix w' base p q r (zs.take k) size ∧ Fr (fun b => b = q ∨ r = some b) w w' := by
  by_cases hl : k < zs.length
  · refine (VecI.delete_in base q r zs.length (iv zs) k (zs.length - k) ((zs.length : Int) - k) w h.vec (iv_one zs) hl (by omega) (by omega) (by omega) hn).mono ?_
    rintro e w' ⟨b, c, he, ho, hv, hf⟩
    refine ⟨b, c, he, ?_, ?_, hf⟩
    · rw [iv_drop]
      rw [List.take_of_length_le (by rw [List.length_drop]; simp [iv])] at ho
      exact ho
    · refine h.turn hf ?_ (.inl rfl)
      rw [iv_take, List.length_take, Nat.min_eq_left hk]
      rw [show zs.length - (zs.length - k) = k by omega, List.drop_of_length_le (by simp [iv]; omega), List.append_nil] at hv
      exact hv
  · obtain rfl : k = zs.length := by omega
    refine (VecI.delete_none base q r zs.length (iv zs) _ _ w h.vec (.inr (by omega))).mono ?_
    rintro e w' ⟨he, rfl⟩
    refine ⟨none, 0, by rw [he]; simp, ?_, by rw [List.take_length]; exact h, Fr.refl _ _⟩
    rw [Nat.sub_self, List.drop_length]
    exact World.ownsRow_nil w w.heap.size E 1

theorem cut_any (h : Ix w base p q r zs size) (k : Nat) (hk : k ≤ zs.length) (hn : zs.length ≤ 1000000) :
    Calls Tryz.prog 70 #[.pointer (some ⟨p, 0, none⟩), .int .i64 k] w fun e w' => ∃ b c, e = .returned (.slice b (zs.length - k) c) ∧
      w'.ownsRow w.heap.size E 1 (.slice b (zs.length - k) c) (zs.length - k) (iv (zs.drop k)) ∧ Ix w' base p q r (zs.take k) size ∧ Fr (fun b => b = q ∨ r = some b) w w' := by
  obtain ⟨k0, k1⟩ := h.cells
  have hd : Ix w.drew base p q r zs size := h.fr (S := fun _ => False) (Fr.refl _ w).drew (by simp)
  have hln := (lines_any hd).mono fun e w' (h : e = _ ∧ w.drew = w') => (⟨h.1, h.2.symm⟩ : e = _ ∧ w' = w.drew)
  have hdel := vcut hd k hk hn
  have hw1 : IntKind.i64.wrap ((zs.length : Int) - k) = (zs.length : Int) - k := by rw [IntKind.wrap_i64]; omega
  clear h hd
  go_enter Tryz.func70, Tryz.ntmps70
  go_wp2
  refine wp_tail 9 (by kernel_rfl) (by kernel_rfl) ?_
  simp only [List.take_succ_cons, List.take_zero, List.drop_succ_cons, List.drop_zero]
  repeat (first | still_step | still_call hln)
  refine wpStill_nil ?_
  go_wp2_with fail
  refine hdel.mono ?_
  rintro e w2 ⟨b, c, rfl, ho, hx, hf⟩
  have HO := Lib.hid ho
  have HX := Lib.hid (And.intro hx hf)
  clear ho hx hf hdel hln
  go_wp2
  go_ret
  exact ⟨b, c, rfl, HO.out, HX.out.1, (Fr.refl _ w).drew.trans HX.out.2⟩

end

/-! The iterators. -/
theorem begun_new (s : ByteArray) (w : World) : Calls Tryz.prog 73 #[.string s] w fun e w' => e = .returned (.func (.func 90) #[] #[.pointer (some ⟨w.heap.size, 0, none⟩)]) ∧ w.alloc (.cells #[.string s] 9) = w' := by
  go_enter Tryz.func73, Tryz.ntmps73
  go_wp2
  go_ret
  exact ⟨rfl, rfl⟩

theorem values_new (b : Option Addr) (n c : Nat) (w : World) : Calls Tryz.prog 74 #[.slice b n c] w fun e w' => e = .returned (.func (.func 91) #[] #[.pointer (some ⟨w.heap.size, 0, none⟩)]) ∧ w.alloc (.cells #[.slice b n c] 111) = w' := by
  go_enter Tryz.func74, Tryz.ntmps74
  go_wp2
  go_ret
  exact ⟨rfl, rfl⟩

/-- What an iterator asks to be left alone. -/
def Kept (K : Nat → Prop) (W W' : World) : Prop := ∀ k, K k → W'.heap[k]? = W.heap[k]?

def enc1 (z : Int) : Array Value := #[.int .i64 z]

theorem values_iter (bx : Nat) (b : Option Addr) (c : Nat) (zs : List Int) (base : Nat) (w : World) (hx : w.cell? ⟨bx, 0, none⟩ = some (.slice b zs.length c)) (ho : w.ownsRow base E 1 (.slice b zs.length c) zs.length (iv zs)) (hn : zs.length ≤ 1000000) :
    Iter Tryz.prog 91 #[.pointer (some ⟨bx, 0, none⟩)] enc1 0 (Kept fun k => k = bx ∨ (Value.slice b zs.length c).ownBlock = some k) zs w := fun l J Jx W hW hJ hJx hY h0 => by
  have hcW : W.cell? ⟨bx, 0, none⟩ = some (.slice b zs.length c) := (hW.cell (World.block_lt_of_cell? w _ hx)).trans hx
  have hoW : W.ownsRow base E 1 (.slice b zs.length c) zs.length (iv zs) := ownsRow_fr ho (Fr.ofBelow hW (fun _ => False)) (by simp)
  have HOW := Lib.hid hoW
  clear ho hx hoW
  refine callsIn_of_wp Tryz.func91 rfl trivial ?_ rfl
  simp only [Tryz.ntmps91, List.size_toArray, List.length_cons, List.length_nil, Nat.reduceAdd, Nat.reduceSub, Array.replicate_succ, Array.replicate_zero, List.push_toArray, List.append_toArray, List.nil_append, List.cons_append]
  gi_wp2
  gi_loopw [7] (fun i wr => ∃ k : Nat, k ≤ zs.length ∧ i = .int .i64 k ∧ Hid (J (zs.take k) wr) ∧ Hid (wr.ownsRow base E 1 (.slice b zs.length c) zs.length (iv zs)) ∧ W.heap.size ≤ wr.heap.size) (fun i _ => zs.length - (RowKit.intOf i).toNat)
  case atStart => exact ⟨0, Nat.zero_le _, rfl, h0, HOW.out, Nat.le_refl _⟩
  case round =>
    obtain ⟨k, hk, rfl, hj, hor, hsz⟩ := hrel
    by_cases hkn : k < zs.length
    · obtain ⟨g, rfl⟩ : ∃ g, b = some ⟨g, 0, none⟩ := by
        rcases hor.out.2 with ⟨h, h0⟩ | ⟨g, cap, cur, h, _⟩
        · omega
        · simp only [Value.slice.injEq] at h; exact ⟨g, h.1⟩
      have hck := hor.out.cellAt k (by omega)
      rw [iv_at zs k hkn] at hck
      have hcs : zs.length ≤ c := by
        rcases hor.out.2 with ⟨h, h0⟩ | ⟨g, cap, cur, h, _, _, hnc, hm, _⟩
        · omega
        · simp only [Value.slice.injEq] at h; omega
      obtain ⟨fn, tmps, assign, body, hy, hR⟩ := hY (zs.take k) (zs.getD k 0) wr ⟨zs.drop (k + 1), by
        rw [List.getD_eq_getElem?_getD, List.getElem?_eq_getElem hkn]
        show zs = zs.take k ++ zs[k] :: zs.drop (k + 1)
        rw [← List.drop_eq_getElem_cons hkn, List.take_append_drop]⟩ (by omega) hj.out
      have hts : zs.take (k + 1) = zs.take k ++ [zs.getD k 0] := by
        rw [List.take_succ_eq_append_getElem hkn, List.getD_eq_getElem?_getD, List.getElem?_eq_getElem hkn]; rfl
      have HTS := Lib.hid hts
      have HR := Lib.hid hR
      unfold enc1 at hy
      clear hR hts
      generalize zs.getD k 0 = z at *
      gi_wp2
      refine (roundIn_any HR.out).mono ?_
      rintro e W3 ⟨⟨hsz3, _⟩, (⟨rfl, hJ3, hk3⟩ | ⟨rfl, hJx3⟩)⟩
      · have H3 := Lib.hid hJ3
        have hk4 := hk3 g (.inr rfl)
        have ho4 : W3.ownsRow base E 1 (.slice (some ⟨g, 0, none⟩) zs.length c) zs.length (iv zs) := by
          refine ⟨hor.out.1, ?_⟩
          rcases hor.out.2 with hn | ⟨g', cap, cur, h, hb, hgg, rest⟩
          · exact .inl hn
          · obtain rfl : g = g' := by simp only [Value.slice.injEq, Option.some.injEq, Addr.mk.injEq] at h; exact h.1.1
            exact .inr ⟨g, cap, cur, h, hb, hk4.trans hgg, rest⟩
        have HO4 := Lib.hid ho4
        clear hJ3 hk3 hk4 ho4
        gi_wp2
        go_roundw
        case rel => exact ⟨k + 1, by omega, by go_num, by rw [HTS.out]; exact H3.out, HO4.out, by omega⟩
        case measure => simp [RowKit.intOf]; omega
      · have H3 := Lib.hid hJx3
        clear hJx3
        gi_wp2
        refine bodyPost_ret (results_none rfl _ _ _) rfl ?_
        refine ⟨⟨_, rfl⟩, .inr ⟨_, ?_, by simp, H3.out⟩⟩
        rw [← HTS.out]
        exact List.take_prefix _ _
    · obtain rfl : k = zs.length := by omega
      gi_wp2
      go_end0
      refine ⟨⟨_, rfl⟩, .inl ?_⟩
      have := hj.out
      rwa [List.take_length] at this

/-- The lines that begin behind the line feeds of s. -/
def bgi (t : List UInt8) : List Int := (bg 0 t).map Int.ofNat

theorem bgi_snoc (s : ByteArray) (k : Nat) (h : k < s.size) : bgi (s.data.toList.take (k + 1)) = bgi (s.data.toList.take k) ++ if s[k] = 10 then [(k : Int) + 1] else [] := by
  have hl : k < s.data.toList.length := by simpa using h
  have hg : s.data.toList[k] = s[k] := rfl
  rw [List.take_succ_eq_append_getElem hl, hg]
  unfold bgi
  rw [bg_append, List.length_take, Nat.min_eq_left (by omega), List.map_append, Nat.zero_add]
  congr 1
  simp only [bg]
  split <;> simp

theorem bgi_split (s : ByteArray) (k : Nat) (h : k < s.size) (h10 : s[k] = 10) : ∃ rest, bgi s.data.toList = bgi (s.data.toList.take k) ++ ((k : Int) + 1) :: rest := by
  refine ⟨(bg (k + 1) (s.data.toList.drop (k + 1))).map Int.ofNat, ?_⟩
  have h1 := bgi_snoc s k h
  rw [if_pos h10] at h1
  have hl : (s.data.toList.take (k + 1)).length = k + 1 := by rw [List.length_take, Nat.min_eq_left]; simp; omega
  have h2 : bgi s.data.toList = bgi (s.data.toList.take (k + 1)) ++ (bg (k + 1) (s.data.toList.drop (k + 1))).map Int.ofNat := by
    conv => lhs; rw [← List.take_append_drop (k + 1) s.data.toList]
    unfold bgi
    rw [bg_append, hl, Nat.zero_add, List.map_append]
  rw [h2, h1]
  simp

set_option maxHeartbeats 1000000 in
theorem begun_iter (bx : Nat) (s : ByteArray) (w : World) (hx : w.cell? ⟨bx, 0, none⟩ = some (.string s)) (hn : s.size ≤ 1000000000) :
    Iter Tryz.prog 90 #[.pointer (some ⟨bx, 0, none⟩)] enc1 0 (Kept fun k => k = bx) (bgi s.data.toList) w := fun l J Jx W hW hJ hJx hY h0 => by
  have hcW : W.cell? ⟨bx, 0, none⟩ = some (.string s) := (hW.cell (World.block_lt_of_cell? w _ hx)).trans hx
  have hmx : Tryz.prog.follows .mixedOrders = true := by kernel_rfl
  clear hx
  refine callsIn_of_wp Tryz.func90 rfl trivial ?_ rfl
  simp only [Tryz.ntmps90, List.size_toArray, List.length_cons, List.length_nil, Nat.reduceAdd, Nat.reduceSub, Array.replicate_succ, Array.replicate_zero, List.push_toArray, List.append_toArray, List.nil_append, List.cons_append]
  gi_wp2
  gi_loopw [6] (fun i wr => ∃ k : Nat, k ≤ s.size ∧ i = .int .i64 k ∧ Hid (J (bgi (s.data.toList.take k)) wr) ∧ wr.cell? ⟨bx, 0, none⟩ = some (.string s) ∧ W.heap.size ≤ wr.heap.size) (fun i _ => s.size - (RowKit.intOf i).toNat)
  case atStart => exact ⟨0, Nat.zero_le _, rfl, (show J (bgi (List.take 0 s.data.toList)) W from h0), hcW, Nat.le_refl _⟩
  case round =>
    obtain ⟨k, hk, rfl, hj, hcr, hsz⟩ := hrel
    by_cases hkn : k < s.size
    · have hsn := Lib.hid (bgi_snoc s k hkn)
      by_cases h10 : s[k] = 10
      · have hcc : (((s[k]'hkn).toNat : Int) == 10) = true := by rw [h10]; rfl
        obtain ⟨fn, tmps, assign, body, hy, hR⟩ := hY (bgi (s.data.toList.take k)) ((k : Int) + 1) wr (bgi_split s k hkn h10) (by omega) hj.out
        have HR := Lib.hid hR
        have H10 := Lib.hid h10
        unfold enc1 at hy
        clear hR h10
        gi_wp2
        refine (roundIn_any HR.out).mono ?_
        rintro e W3 ⟨⟨hsz3, _⟩, (⟨rfl, hJ3, hk3⟩ | ⟨rfl, hJx3⟩)⟩
        · have H3 := Lib.hid hJ3
          have hc4 : W3.cell? ⟨bx, 0, none⟩ = some (.string s) := (World.cell?_of_block (a := ⟨bx, 0, none⟩) (hk3 bx rfl)).trans hcr
          have H4 := Lib.hid hc4
          clear hJ3 hk3 hc4
          gi_wp2
          go_roundw
          case rel => exact ⟨k + 1, by omega, by go_num, by rw [hsn.out, if_pos H10.out]; exact H3.out, H4.out, by omega⟩
          case measure => simp [RowKit.intOf]; omega
        · have H3 := Lib.hid hJx3
          clear hJx3
          gi_wp2
          refine bodyPost_ret (results_none rfl _ _ _) rfl ?_
          obtain ⟨rest, hr⟩ := bgi_split s k hkn H10.out
          exact ⟨⟨_, rfl⟩, .inr ⟨_, ⟨rest, by rw [hr]; simp⟩, by simp, H3.out⟩⟩
      · have hcc : (((s[k]'hkn).toNat : Int) == 10) = false := by
          rw [beq_eq_false_iff_ne]; intro h; apply h10; apply UInt8.toNat_inj.1; have : (10 : UInt8).toNat = 10 := rfl; omega
        have H10 := Lib.hid h10
        clear h10
        gi_wp2
        repeat (first | (refine ⟨fun f h => (by cases h), ?_⟩; gi_wp2))
        go_roundw
        case rel => exact ⟨k + 1, by omega, by go_num, by rw [hsn.out, if_neg H10.out, List.append_nil]; exact hj.out, hcr, by omega⟩
        case measure => simp [RowKit.intOf]; omega
    · obtain rfl : k = s.size := by omega
      gi_wp2
      go_end0
      refine ⟨⟨_, rfl⟩, .inl ?_⟩
      have := hj.out
      rwa [List.take_of_length_le (by simp)] at this

end Go.Proofs.YtfllgmgipmmpkaaGreatDoor.Lx
