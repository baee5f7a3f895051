/-
  The law MarksStay, walked.
-/
import Derived.Test.YtmmmaadhbmgciaaMe
set_option linter.unusedVariables false
set_option linter.unusedSimpArgs false
set_option maxRecDepth 100000
namespace Go.Proofs.Ytmmmaadhbmgciaa.MStay
open Go Go.RowKit Go.Proofs.Ytmmmaadhbmgciaa.Vk Go.Proofs.Ytmmmaadhbmgciaa.Str Go.Proofs.Ytmmmaadhbmgciaa.Ln Go.Proofs.Ytmmmaadhbmgciaa.Cl Go.Proofs.Ytmmmaadhbmgciaa.Ml Go.Proofs.Ytmmmaadhbmgciaa.Mk
attribute [local go_sem] Oper.semAt_some

theorem cell_one {w : World} {p : Addr} {v : Value} (h : w.cell? p = some v) (O : Obj) : (w.alloc O).cell? p = some v :=
  cell_later ((Below.refl _ w).alloc (Nat.le_refl _) O) h
theorem u8_of {l : Int} (h : (Lit.int .u8 l).wf = true) : 0 ≤ l ∧ l ≤ 255 := by simpa [Lit.wf, show IntKind.u8.min = 0 from rfl, show IntKind.u8.max = 255 from rfl] using h
theorem lk_adj {L : ML} (hs : Srt L) (a o n : Int) (c : Nat) : lk (adj L a o n) c = (lk L c).bind fun p => (shf p.1 a o n).map fun l => (l, p.2) := by
  induction L with
  | nil => rfl
  | cons x L ih =>
    obtain ⟨h1, h2⟩ := List.pairwise_cons.1 hs
    by_cases hx : x.1 = c
    · rw [look_eq hx]
      show lk (adj (x :: L) a o n) c = (shf x.2.1 a o n).map fun l => (l, x.2.2)
      unfold adj
      rw [List.filterMap_cons]
      cases hg : shf x.2.1 a o n with
      | none =>
        rw [show one x a o n = none by unfold one; rw [hg]; rfl]
        refine look_none fun y hy => ?_
        obtain ⟨z, hz, hzy⟩ := mem_adj (L := L) hy
        rw [one_name hzy]
        have := h1 z hz
        omega
      | some l =>
        rw [show one x a o n = some (x.1, (l, x.2.2)) by unfold one; rw [hg]; rfl]
        exact look_eq hx
    · rw [look_ne hx, ← ih h2]
      unfold adj
      rw [List.filterMap_cons]
      cases hg : one x a o n with
      | none => rfl
      | some y => exact look_ne (by rw [one_name hg]; exact hx)
theorem ins_end {L : ML} {c : Nat} (p : P2) (h : ∀ x ∈ L, x.1 < c) : ins L c p = L ++ [(c, p)] := by
  induction L with
  | nil => rfl
  | cons x L ih =>
    unfold ins
    rw [if_pos (h x List.mem_cons_self), ih fun y hy => h y (List.mem_cons_of_mem _ hy)]
    rfl
/-- The marks that are set first. -/
def mk (zs : List Int) (k : Nat) : ML := (List.range k).map fun j => (97 + j, (zs.getD j 0, 0))
theorem mk_zero (zs : List Int) : mk zs 0 = [] := rfl
theorem mk_succ (zs : List Int) (k : Nat) : mk zs (k + 1) = mk zs k ++ [(97 + k, (zs.getD k 0, 0))] := by
  unfold mk
  rw [List.range_succ, List.map_append]
  rfl
theorem mk_mem {zs : List Int} {k : Nat} {x : Nat × P2} (h : x ∈ mk zs k) : ∃ j, j < k ∧ x = (97 + j, (zs.getD j 0, 0)) := by
  obtain ⟨j, hj, rfl⟩ := List.mem_map.1 h
  exact ⟨j, List.mem_range.1 hj, rfl⟩
theorem mk_srt (zs : List Int) (k : Nat) : Srt (mk zs k) := by
  unfold Srt mk
  rw [List.pairwise_map]
  exact List.pairwise_lt_range.imp fun {a b} h => by show 97 + a < 97 + b; omega
theorem mk_rng (zs : List Int) {k : Nat} (hk : k ≤ 20) : Rng (mk zs k) := fun x hx => by
  obtain ⟨j, hj, rfl⟩ := mk_mem hx
  show 96 ≤ 97 + j ∧ 97 + j ≤ 122
  omega
theorem mk_at (zs : List Int) {j k : Nat} (h : j < k) : lk (mk zs k) (97 + j) = some (zs.getD j 0, 0) :=
  look_some (mk_srt zs k) (x := (97 + j, (zs.getD j 0, 0))) (List.mem_map.2 ⟨j, List.mem_range.2 h, rfl⟩)
theorem mk_bnd {zs : List Int} (h : ∀ z ∈ zs, (Lit.int .u8 z).wf = true) (k : Nat) : Bnd 255 (mk zs k) := fun x hx => by
  obtain ⟨j, hj, rfl⟩ := mk_mem hx
  show -255 ≤ zs.getD j 0 ∧ zs.getD j 0 ≤ 255
  by_cases hjl : j < zs.length
  · rw [List.getD_eq_getElem?_getD, List.getElem?_eq_getElem hjl]
    have := u8_of (h _ (List.getElem_mem hjl))
    show -255 ≤ zs[j] ∧ zs[j] ≤ 255
    omega
  · rw [List.getD_eq_getElem?_getD, List.getElem?_eq_none (by omega)]
    decide
theorem shf_bnd {z a o n l : Int} {M : Int} (h : shf z a o n = some l) (hz : -M ≤ z ∧ z ≤ M) (hn : 0 ≤ o ∧ o ≤ 255 ∧ 0 ≤ n ∧ n ≤ 255) : -(M + 255) ≤ l ∧ l ≤ M + 255 := by
  unfold shf at h
  split at h
  · cases h; omega
  · split at h
    · split at h
      · cases h; omega
      · cases h
    · cases h; omega
theorem adj_bnd {L : ML} {M a o n : Int} (h : Bnd M L) (hn : 0 ≤ o ∧ o ≤ 255 ∧ 0 ≤ n ∧ n ≤ 255) : Bnd (M + 255) (adj L a o n) := fun y hy => by
  obtain ⟨x, hx, hxy⟩ := mem_adj hy
  unfold one at hxy
  cases hs : shf x.2.1 a o n with
  | none => rw [hs] at hxy; cases hxy
  | some l =>
    rw [hs] at hxy
    simp only [Option.map_some, Option.some.injEq] at hxy
    rw [← hxy]
    exact shf_bnd hs (h x hx) hn
theorem bnd_mono {L : ML} {M N : Int} (h : Bnd M L) (hn : M ≤ N) : Bnd N L := fun x hx => by have := h x hx; omega
theorem set_mk (W : World) (m b k : Nat) (zs : List Int) (z : Int) (h : Mks W m b (mk zs k)) (hk : k < 20) (hz : zs.getD k 0 = z) : Calls Try.prog 12 #[.pointer (some ⟨m, 0, none⟩), .int .u8 (97 + (k : Int)), .agg #[.int .i64 z, .int .i64 0]] W fun e w' =>
    e = .returned (.bool true) ∧ Mks w' m b (mk zs (k + 1)) ∧ Fr (fun j => j = b) W w' := by
  have h1 := set_any m b (mk zs k) (97 + k) z 0 W h (by omega) (mk_srt zs k) (mk_rng zs (by omega))
  have hn : nam (97 + k) = true := by unfold nam; exact decide_eq_true (by omega)
  rw [hn, setL_yes hn, ins_end _ (fun x hx => by obtain ⟨j, hj, rfl⟩ := mk_mem hx; show 97 + j < 97 + k; omega), ← hz, ← mk_succ] at h1
  rw [← hz]
  exact h1
/-- What is left of a mark. -/
theorem left_none {zs : List Int} {i N : Nat} {z a o n : Int} (hi : i < N) (hz : zs.getD i 0 = z) (h : shf z a o n = none) : lk (adj (adj (mk zs N) a o n) a n o) (97 + i) = none := by
  rw [lk_adj (srt_adj (mk_srt zs N) a o n), lk_adj (mk_srt zs N), mk_at zs hi, hz]
  show Option.bind (Option.map _ (shf z a o n)) _ = none
  rw [h]
  rfl
theorem left_some {zs : List Int} {i N : Nat} {z a o n l : Int} (hi : i < N) (hz : zs.getD i 0 = z) (h : shf z a o n = some l) (h2 : shf l a n o = some z) : lk (adj (adj (mk zs N) a o n) a n o) (97 + i) = some (z, 0) := by
  rw [lk_adj (srt_adj (mk_srt zs N) a o n), lk_adj (mk_srt zs N), mk_at zs hi, hz]
  show Option.bind (Option.map _ (shf z a o n)) _ = some (z, 0)
  rw [h]
  show Option.map _ (shf l a n o) = some (z, 0)
  rw [h2]
  rfl
theorem place_any (a : Int) (w : World) (h : 0 ≤ a ∧ a ≤ 255) : Calls Try.prog 19 #[.int .i64 a, .int .i64 7] w fun e w' => e = .returned (.int .i64 (a % 7)) ∧ w = w' := by
  have h1 : ¬ a % 7 < 0 := by omega
  go_enter Try.func19, Try.ntmps19
  go_wp2
  go_ret
  exact ⟨rfl, rfl⟩

theorem get_mk (W : World) (m b k : Nat) (L : ML) (x y : Int) (q : Bool) (h : Mks W m b L) (hk : k < 20) (hx : (lz (lk L (97 + k))).1 = x) (hy : (lz (lk L (97 + k))).2 = y) (hq : (lk L (97 + k)).isSome = q) : Calls Try.prog 16 #[.pointer (some ⟨m, 0, none⟩), .int .u8 (97 + (k : Int))] W fun e w' =>
    e = .returned (.tuple #[.agg #[.int .i64 x, .int .i64 y], .bool q]) ∧ Below W.heap.size W w' := by
  have h1 := get_any m b L (97 + k) W h (by omega)
  rw [hx, hy, hq] at h1
  exact h1

set_option maxHeartbeats 4000000 in
theorem walk (sa : Option Addr) (N cp : Nat) (zs : List Int) (a o n : Int) (w : World) (hz : SrcV w 1 (.slice sa N cp) N (zs.map (.int .u8))) (wz : ∀ z ∈ zs, (Lit.int .u8 z).wf = true) (wa : (Lit.int .u8 a).wf = true) (wo : (Lit.int .u8 o).wf = true) (wn : (Lit.int .u8 n).wf = true) :
    Calls Try.prog 5 #[.slice sa N cp, .int .u8 a, .int .u8 o, .int .u8 n] w fun e w' => e = .returned (.bool true) ∧ Below w.heap.size w w' := by
  have hk := known_any w
  have ha := u8_of wa
  have ho := u8_of wo
  have hn := u8_of wn
  have hzl : zs.length = N := by have := hz.1; simpa using this
  have HZ := Lib.hid (And.intro hz (And.intro wz hzl))
  have hN63 : N ≤ 9223372036854775807 := hz.2.2.1
  clear wa wo wn hz wz hzl
  go_enter Try.func5, Try.ntmps5
  go_wp2_with fail
  refine hk.mono ?_
  rintro e w1 ⟨rfl, hb1⟩
  have HB := Lib.hid hb1
  clear hk hb1
  by_cases h20 : 20 < N
  · go_wp2
    go_ret
    exact ⟨rfl, HB.out⟩
  go_wp2_with fail
  refine (new_any _).mono ?_
  rintro e w2 ⟨rfl, hm2, hb2⟩
  have HB2 := Lib.hid (And.intro (below_on HB.out hb2) hb2.size)
  have HM2 := Lib.hid hm2
  clear hb2 hm2
  obtain ⟨b, hbq⟩ : ∃ b, b = w1.heap.size := ⟨_, rfl⟩
  rw [← hbq] at HM2 ⊢
  have HBQ := Lib.hid (And.intro hbq HB.out.size)
  clear hbq
  go_wp2_with fail
  have w1a : IntKind.i64.wrap a = a := by rw [IntKind.wrap_i64]; omega
  have w1o : IntKind.i64.wrap o = o := by rw [IntKind.wrap_i64]; omega
  have w1n : IntKind.i64.wrap n = n := by rw [IntKind.wrap_i64]; omega
  have w1s : IntKind.i64.wrap (a + o) = a + o := by rw [IntKind.wrap_i64]; omega
  go_loopw [10] (fun i wr => ∃ k : Nat, k ≤ N ∧ i = .int .i64 k ∧ Hid (Mks wr (b + 1) b (mk zs k) ∧ Below w.heap.size w wr)) (fun i _ => N - (RowKit.intOf i).toNat)
  case atStart => exact ⟨0, Nat.zero_le _, rfl, ⟨HM2.out, HB2.out.1⟩⟩
  case round =>
    obtain ⟨k, hkN, rfl, HW⟩ := hrel
    by_cases hk : k < N
    · have hkl : k < zs.length := by have := HZ.out.2.2; omega
      obtain ⟨za, zo, hza, hc, hcp, _⟩ := (SrcV.below HZ.out.1 HW.out.2).at (j := k) (u := .int .u8 zs[k]) (by simp [hkl])
      subst hza
      obtain ⟨z, hzq⟩ : ∃ z, z = zs[k] := ⟨_, rfl⟩
      have hzr := u8_of (HZ.out.2.1 zs[k] (List.getElem_mem hkl))
      rw [← hzq] at hc hzr
      have hgd : zs.getD k 0 = z := by rw [List.getD_eq_getElem?_getD, List.getElem?_eq_getElem hkl, hzq]; rfl
      have hst := fun W (h : Mks W (b + 1) b (mk zs k)) => set_mk W (b + 1) b k zs z h (by omega) hgd
      have v1 : IntKind.i64.wrap (97 + (k : Int)) = 97 + (k : Int) := by rw [IntKind.wrap_i64]; omega
      have v2 : IntKind.u8.wrap (97 + (k : Int)) = 97 + (k : Int) := by rw [IntKind.wrap_u8]; omega
      have v3 : IntKind.i64.wrap z = z := by rw [IntKind.wrap_i64]; omega
      clear hzq hgd
      go_wp2_with fail
      refine (hst _ HW.out.1).mono ?_
      rintro e w3 ⟨rfl, hm3, hf3⟩
      have HW3 := Lib.hid (And.intro hm3 (HW.out.2.trans (hf3.below HW.out.2.size (fun j e => by have := HBQ.out.1; have := HBQ.out.2; omega))))
      clear hm3 hf3 hst hc
      go_wp2
      go_roundw
      case rel => exact ⟨k + 1, by omega, by go_num, HW3⟩
      case measure => simp [RowKit.intOf]; omega
    · obtain rfl : k = N := by omega
      have hbnd := mk_bnd (zs := zs) (fun z hz => HZ.out.2.1 z hz) k
      have had := fun W (h : Mks W (b + 1) b (mk zs k)) => adjust_any (b + 1) b (mk zs k) a o n W h (mk_srt zs k) (mk_rng zs (by omega)) (bnd_mono hbnd (by omega))
      have had2 := fun W (h : Mks W (b + 1) b (adj (mk zs k) a o n)) => adjust_any (b + 1) b (adj (mk zs k) a o n) a n o W h (srt_adj (mk_srt zs k) a o n) (rng_adj (mk_rng zs (by omega)) a o n) (bnd_mono (adj_bnd hbnd ⟨ho.1, ho.2, hn.1, hn.2⟩) (by omega))
      clear hbnd
      go_wp2_with fail
      refine (had _ HW.out.1).mono ?_
      rintro e w3 ⟨rfl, hm3, hf3⟩
      have HB3 := Lib.hid (HW.out.2.trans (hf3.below HW.out.2.size (fun j e => by have := HBQ.out.1; have := HBQ.out.2; omega)))
      clear had hf3
      go_wp2_with fail
      refine (had2 _ hm3).mono ?_
      rintro e w4 ⟨rfl, hm4, hf4⟩
      have HB4 := Lib.hid (And.intro hm4 (HB3.out.trans (hf4.below HB3.out.size (fun j e => by have := HBQ.out.1; have := HBQ.out.2; omega))))
      clear had2 hf4 hm3 hm4
      go_wp2_with fail
      have hpl := fun W => place_any a W ha
      go_loopw [11] (fun i wr => ∃ j : Nat, j ≤ k ∧ i = .int .i64 j ∧ Hid (Below w4.heap.size w4 wr)) (fun i _ => k - (RowKit.intOf i).toNat)
      case atStart => exact ⟨0, Nat.zero_le _, rfl, Below.refl _ _⟩
      case round =>
        obtain ⟨j, hjk, rfl, D⟩ := hrel
        by_cases hj : j < k
        · have hjl : j < zs.length := by have := HZ.out.2.2; omega
          obtain ⟨za, zo, hza, hc, hcp, _⟩ := (SrcV.below HZ.out.1 (HB4.out.2.trans (D.out.mono HB4.out.2.size))).at (j := j) (u := .int .u8 zs[j]) (by simp [hjl])
          subst hza
          obtain ⟨z, hzq⟩ : ∃ z, z = zs[j] := ⟨_, rfl⟩
          have hzr := u8_of (HZ.out.2.1 zs[j] (List.getElem_mem hjl))
          rw [← hzq] at hc hzr
          have hgd : zs.getD j 0 = z := by rw [List.getD_eq_getElem?_getD, List.getElem?_eq_getElem hjl, hzq]; rfl
          have v1 : IntKind.i64.wrap (97 + (j : Int)) = 97 + (j : Int) := by rw [IntKind.wrap_i64]; omega
          have v2 : IntKind.u8.wrap (97 + (j : Int)) = 97 + (j : Int) := by rw [IntKind.wrap_u8]; omega
          have v3 : IntKind.i64.wrap z = z := by rw [IntKind.wrap_i64]; omega
          have v4 : IntKind.i64.wrap (z - a) = z - a := by rw [IntKind.wrap_i64]; omega
          have HGD := Lib.hid hgd
          clear hzq hgd hpl
          by_cases q1 : a ≤ z
          · by_cases q2 : z < a + o
            · by_cases q3 : n ≤ z - a
              · have hlk : lk (adj (adj (mk zs k) a o n) a n o) (97 + j) = none := left_none hj HGD.out (shf_gone (by omega) (by omega) (by omega))
                have hgt := fun W (h : Mks W (b + 1) b (adj (adj (mk zs k) a o n) a n o)) => get_mk W (b + 1) b j _ 0 0 false h (by omega) (by rw [hlk]; rfl) (by rw [hlk]; rfl) (by rw [hlk]; rfl)
                clear hlk
                go_wp2_with fail
                refine (hgt _ (HB4.out.1.below D.out)).mono ?_
                rintro e w5 ⟨rfl, hb5⟩
                have hc := cell_later hb5 hc
                have D5 := Lib.hid ((below_on D.out hb5).alloc (below_on D.out hb5).size (.cells #[.int .i64 0, .int .i64 0] 37))
                have hc := cell_one hc (.cells #[.int .i64 0, .int .i64 0] 37)
                clear hgt hb5
                go_wp2
                go_roundw
                case rel => exact ⟨j + 1, by omega, by go_num, D5⟩
                case measure => simp [RowKit.intOf]; omega
              · have hlk : lk (adj (adj (mk zs k) a o n) a n o) (97 + j) = some (z, 0) := left_some hj HGD.out (shf_in (by omega) (by omega) (by omega)) (shf_in (by omega) (by omega) (by omega))
                have hgt := fun W (h : Mks W (b + 1) b (adj (adj (mk zs k) a o n) a n o)) => get_mk W (b + 1) b j _ z 0 true h (by omega) (by rw [hlk]; rfl) (by rw [hlk]; rfl) (by rw [hlk]; rfl)
                clear hlk
                go_wp2_with fail
                refine (hgt _ (HB4.out.1.below D.out)).mono ?_
                rintro e w5 ⟨rfl, hb5⟩
                have hc := cell_later hb5 hc
                have D5 := Lib.hid ((below_on D.out hb5).alloc (below_on D.out hb5).size (.cells #[.int .i64 z, .int .i64 0] 37))
                have hc := cell_one hc (.cells #[.int .i64 z, .int .i64 0] 37)
                clear hgt hb5
                go_wp2
                go_roundw
                case rel => exact ⟨j + 1, by omega, by go_num, D5⟩
                case measure => simp [RowKit.intOf]; omega
            · have hlk : lk (adj (adj (mk zs k) a o n) a n o) (97 + j) = some (z, 0) := left_some hj HGD.out (shf_on (by omega) (by omega)) ((shf_on (by omega) (by omega)).trans (by rw [show z - o + n - n + o = z by omega]))
              have hgt := fun W (h : Mks W (b + 1) b (adj (adj (mk zs k) a o n) a n o)) => get_mk W (b + 1) b j _ z 0 true h (by omega) (by rw [hlk]; rfl) (by rw [hlk]; rfl) (by rw [hlk]; rfl)
              clear hlk
              go_wp2_with fail
              refine (hgt _ (HB4.out.1.below D.out)).mono ?_
              rintro e w5 ⟨rfl, hb5⟩
              have hc := cell_later hb5 hc
              have D5 := Lib.hid ((below_on D.out hb5).alloc (below_on D.out hb5).size (.cells #[.int .i64 z, .int .i64 0] 37))
              have hc := cell_one hc (.cells #[.int .i64 z, .int .i64 0] 37)
              clear hgt hb5
              go_wp2
              go_roundw
              case rel => exact ⟨j + 1, by omega, by go_num, D5⟩
              case measure => simp [RowKit.intOf]; omega
          · have hlk : lk (adj (adj (mk zs k) a o n) a n o) (97 + j) = some (z, 0) := left_some hj HGD.out (shf_odd (by omega)) (shf_odd (by omega))
            have hgt := fun W (h : Mks W (b + 1) b (adj (adj (mk zs k) a o n) a n o)) => get_mk W (b + 1) b j _ z 0 true h (by omega) (by rw [hlk]; rfl) (by rw [hlk]; rfl) (by rw [hlk]; rfl)
            clear hlk
            go_wp2_with fail
            refine (hgt _ (HB4.out.1.below D.out)).mono ?_
            rintro e w5 ⟨rfl, hb5⟩
            have hc := cell_later hb5 hc
            have D5 := Lib.hid ((below_on D.out hb5).alloc (below_on D.out hb5).size (.cells #[.int .i64 z, .int .i64 0] 37))
            have hc := cell_one hc (.cells #[.int .i64 z, .int .i64 0] 37)
            clear hgt hb5
            go_wp2
            go_roundw
            case rel => exact ⟨j + 1, by omega, by go_num, D5⟩
            case measure => simp [RowKit.intOf]; omega
        · obtain rfl : j = k := by omega
          go_wp2_with fail
          refine (hpl _).mono ?_
          rintro e w' ⟨rfl, rfl⟩
          have hge : 0 ≤ a % 7 := by omega
          clear hpl
          go_wp2
          go_ret
          exact ⟨rfl, HB4.out.2.trans (D.out.mono HB4.out.2.size)⟩
end Go.Proofs.Ytmmmaadhbmgciaa.MStay
