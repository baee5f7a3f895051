/-
  Package edit: Shift, and the document's.
-/
import Derived.Test.YtkddnknjjdenhaaEdr
import Derived.Test.YtkddnknjjdenhaaEdk
set_option linter.unusedVariables false
set_option linter.unusedSimpArgs false
set_option maxRecDepth 100000
namespace Go.Proofs.Ytkddnknjjdenhaa.Ed
open Go Go.RowKit Go.Proofs.Ytkddnknjjdenhaa.Vk Go.Proofs.Ytkddnknjjdenhaa.Str Go.Proofs.Ytkddnknjjdenhaa.Ln Go.Proofs.Ytkddnknjjdenhaa.Cl Go.Proofs.Ytkddnknjjdenhaa.Mv
attribute [local go_sem] Oper.semAt_some

/-- A line shifted. -/
def sh1 (left : Bool) (W : Nat) (s : ByteArray) : ByteArray := if left = true then s.extract (min W (bn s)) s.size else if s.size = 0 then s else rep W 32 ++ s
def shOk (ls : List ByteArray) (f t n : Int) : Prop := 1 ≤ n ∧ 0 ≤ f ∧ f ≤ t ∧ t < (ls.length : Int)
instance (ls : List ByteArray) (f t n : Int) : Decidable (shOk ls f t n) := by unfold shOk; infer_instance
def shn (ls : List ByteArray) (f t n : Int) (left : Bool) : Ch × Bool :=
  if shOk ls f t n then ((f, cutL ls f.toNat t.toNat, (cutL ls f.toNat t.toNat).map (sh1 left (4 * min n.toNat 1024))), true) else ((0, [], []), false)
/-- The first k lines turned. -/
def mapL (f : ByteArray → ByteArray) (C : List ByteArray) (k : Nat) : List ByteArray := (C.take k).map f ++ C.drop k
theorem mapL_zero (f : ByteArray → ByteArray) (C : List ByteArray) : mapL f C 0 = C := by simp [mapL]
theorem mapL_all (f : ByteArray → ByteArray) (C : List ByteArray) {k : Nat} (h : C.length = k) : mapL f C k = C.map f := by subst h; simp [mapL]
theorem mapL_next (f : ByteArray → ByteArray) (C : List ByteArray) (k : Nat) (h : k < C.length) : (mapL f C k).set k (f (lineAt C k)) = mapL f C (k + 1) := by
  have ht : ((C.take k).map f).length = k := by rw [List.length_map, List.length_take]; omega
  unfold mapL
  rw [lineAt_get h, List.take_succ_eq_append_getElem h, List.map_append, List.drop_eq_getElem_cons h, List.set_append_right _ _ (by omega), ht, Nat.sub_self, List.set_cons_zero]
  simp
theorem mapL_at (f : ByteArray → ByteArray) (C : List ByteArray) (k : Nat) (h : k < C.length) : lineAt (mapL f C k) k = lineAt C k := by
  have ht : ((C.take k).map f).length = k := by rw [List.length_map, List.length_take]; omega
  unfold mapL lineAt
  rw [List.getElem?_append_right (by omega), ht, Nat.sub_self, List.getElem?_drop, Nat.add_zero]
theorem mapL_same (f : ByteArray → ByteArray) (C : List ByteArray) (k : Nat) (h : k < C.length) (e : f (lineAt C k) = lineAt C k) : mapL f C (k + 1) = mapL f C k := by
  rw [← mapL_next f C k h, e]
  have ht : ((C.take k).map f).length = k := by rw [List.length_map, List.length_take]; omega
  unfold mapL
  rw [lineAt_get h, List.drop_eq_getElem_cons h, List.set_append_right _ _ (by omega), ht, Nat.sub_self, List.set_cons_zero]
theorem cutL_at {ls : List ByteArray} {f t k : Nat} (h : f + k ≤ t) (ht : t < ls.length) : lineAt (cutL ls f t) k = lineAt ls (f + k) := by
  unfold cutL lineAt
  rw [List.getElem?_take, if_pos (by omega), List.getElem?_drop]
theorem cutL_tz (ls : List ByteArray) (f t : Nat) : tz (cutL ls f t) ≤ tz ls := by
  unfold cutL
  have h1 := tz_take (ls.drop f) (t + 1 - f)
  have h3 : tz (ls.drop f) ≤ tz ls := by
    conv => rhs; rw [← List.take_append_drop f ls]
    rw [tz_append]
    omega
  omega
theorem sh_left (W : Nat) (s : ByteArray) : sh1 true W s = s.extract (min W (bn s)) s.size := rfl
theorem sh_right {W : Nat} {s : ByteArray} (h : ¬ s.size = 0) : sh1 false W s = rep W 32 ++ s := by unfold sh1; rw [if_neg (by decide), if_neg h]
theorem sh_none {W : Nat} {s : ByteArray} (h : s.size = 0) : sh1 false W s = s := by unfold sh1; rw [if_neg (by decide), if_pos h]

set_option maxHeartbeats 8000000 in
theorem shift_any (a : Option Addr) (n c' : Nat) (ls : List ByteArray) (l t m : Int) (left : Bool) (w : World) (h : Ss w a n c' ls) (hn : n ≤ 1000000) (ht : tz ls ≤ 1000000) :
    Calls Try.prog 21 #[.slice a n c', .int .i64 l, .int .i64 t, .int .i64 m, .bool left] w fun e w' => CbOut w (shn ls l t m left) e w' := by
  obtain ⟨i0, hi0, hz0, hz1, hz2⟩ := info_parts infoS
  have hlen := h.length
  obtain ⟨X, hX⟩ : ∃ X, X = w.alloc (.cells #[.int .i64 0, .slice none 0 0, .slice none 0 0] TC) := ⟨_, rfl⟩
  obtain ⟨hb, hr⟩ := zero_pair w
  rw [← hX] at hb hr
  have H := Lib.hid (And.intro (show X = w.alloc (.cells #[.int .i64 0, .slice none 0 0, .slice none 0 0] 31) from hX) (And.intro hb hr))
  by_cases hok : shOk ls l t m
  rotate_left
  · rw [show shn ls l t m left = ((0, [], []), false) from if_neg hok]
    have m0 := hr.c0
    have m1 : X.cell? ⟨w.heap.size, 1, none⟩ = some (.slice none 0 0) := hr.c1
    have m2 : X.cell? ⟨w.heap.size, 2, none⟩ = some (.slice none 0 0) := hr.c2
    have z := hr.z
    have HE : Hid (ChAt (putC X w.heap.size (0, (none, 0, 0), (none, 0, 0))) w.heap.size (0, (none, 0, 0), (none, 0, 0)) ∧ Below w.heap.size w (putC X w.heap.size (0, (none, 0, 0), (none, 0, 0)))) := ⟨hr.set _, putC_below hb (Nat.le_refl _) _⟩
    have hcase : m < 1 ∨ (1 ≤ m ∧ l < 0) ∨ (1 ≤ m ∧ 0 ≤ l ∧ t < l) ∨ (1 ≤ m ∧ 0 ≤ l ∧ l ≤ t ∧ (n : Int) ≤ t) := by unfold shOk at hok; omega
    clear hX hb h hok
    clear hr
    rcases hcase with c1 | ⟨c1, c2⟩ | ⟨c1, c2, c3⟩ | ⟨c1, c2, c3, c4⟩
    · go_enter Try.func21, Try.ntmps21
      go_upto_region 2 with fail
      rw [← H.out.1]
      go_wp2
      exact ret_cb (g := w.heap.size) rfl rfl rfl rfl HE.out.1 ⟨_, rfl, CW.zero _, HE.out.2⟩
    · go_enter Try.func21, Try.ntmps21
      go_upto_region 2 with fail
      rw [← H.out.1]
      go_wp2
      exact ret_cb (g := w.heap.size) rfl rfl rfl rfl HE.out.1 ⟨_, rfl, CW.zero _, HE.out.2⟩
    · go_enter Try.func21, Try.ntmps21
      go_upto_region 2 with fail
      rw [← H.out.1]
      go_wp2
      exact ret_cb (g := w.heap.size) rfl rfl rfl rfl HE.out.1 ⟨_, rfl, CW.zero _, HE.out.2⟩
    · go_enter Try.func21, Try.ntmps21
      go_upto_region 2 with fail
      rw [← H.out.1]
      go_wp2
      exact ret_cb (g := w.heap.size) rfl rfl rfl rfl HE.out.1 ⟨_, rfl, CW.zero _, HE.out.2⟩
  obtain ⟨h2, h0, h3, h4⟩ := id hok
  obtain ⟨i, rfl⟩ : ∃ i : Nat, l = i := ⟨l.toNat, by omega⟩
  obtain ⟨j, rfl⟩ : ∃ j : Nat, t = j := ⟨t.toNat, by omega⟩
  obtain ⟨N, rfl⟩ : ∃ N : Nat, m = N := ⟨m.toNat, by omega⟩
  have hij : i ≤ j := by omega
  have hjn : j < n := by omega
  obtain ⟨C, hC⟩ : ∃ C, C = cutL ls i j := ⟨_, rfl⟩
  have hCl : C.length = j + 1 - i := by rw [hC, cutL_length hij (by omega)]
  have hCz : tz C ≤ 1000000 := by have := cutL_tz ls i j; rw [hC]; omega
  obtain ⟨K, hK⟩ : ∃ K, K = min N 1024 := ⟨_, rfl⟩
  obtain ⟨W, hW⟩ : ∃ W, W = 4 * K := ⟨_, rfl⟩
  have HJ : Hid (shn ls i j N left = ((((i : Nat) : Int), cutL ls i j, C.map (sh1 left W)), true)) := by
    show _ = _
    unfold shn
    rw [if_pos hok, hW, hK, hC]
    rfl
  rw [HJ.out]
  have hW5 : W ≤ 4096 := by omega
  obtain ⟨b, o, rfl, hx0, hx1, hx2⟩ := Ss.read h 0 (by omega)
  clear hx0 hx1 hx2
  obtain ⟨hc1, hc2⟩ := cap_src h (by omega)
  obtain ⟨M, hM⟩ : ∃ M, M = j + 1 - i := ⟨_, rfl⟩
  have HS := Lib.hid (SrcV.below h hb)
  have HL := Lib.hid (And.intro hij (And.intro hjn (And.intro hn (And.intro hlen (And.intro hC hK)))))
  rw [← hM] at hCl
  by_cases hnk : 1024 < N
  · obtain rfl : K = 1024 := by omega
    have hnk' : (1024 : Int) < (N : Int) := by omega
    have hmm : min (N : Int) 1024 = 1024 := by omega
    have hWW : (4096 : Int) = (W : Int) := by omega
    have HWW := Lib.hid hWW
    clear hW hK hWW
    have g1 : ¬ ((N : Int) < 1) := by omega
    have g2 : ¬ ((i : Int) < 0) := by omega
    have g3 : ¬ ((j : Int) < (i : Int)) := by omega
    have g4 : ¬ ((n : Int) ≤ (j : Int)) := by omega
    have e1 : IntKind.i64.wrap ((j : Int) + 1) = ((j + 1 : Nat) : Int) := by rw [IntKind.wrap_i64]; omega
    have e2 : ((j + 1 : Nat) : Int) ≤ (c' : Int) := by omega
    have e3 : (i : Int) ≤ ((j + 1 : Nat) : Int) := by omega
    have e4 : c' ≠ i := by omega
    have e5 : True := trivial
    have e6 : True := trivial
    have HH := Lib.hid (And.intro h hb)
    clear hX hb hr h hok h2 h0 h3 h4 hlen hC
    go_enter Try.func21, Try.ntmps21
    go_upto_region 4 with fail
    rw [← H.out.1]
    rw [HWW.out]
    have hrp := repeat_any W X (by omega)
    go_wp2_with fail
    refine hrp.mono ?_
    rintro e w2 ⟨rfl, hb2⟩
    clear hrp
    have hcl := clone_own (some ⟨b, o + i, none⟩) (j + 1 - i) (c' - i) (cutL ls i j) w2 (cut_src (SrcV.below HS.out hb2) hij hjn) (by omega)
    rw [← hM, ← HL.out.2.2.2.2.1] at hcl
    have HB2 := Lib.hid hb2
    clear hb2
    go_wp2_with fail
    rw [← hM]
    refine hcl.mono ?_
    rintro e w3 ⟨ga, cc, rfl, hown, hb3⟩
    clear hcl
    obtain ⟨g, rfl, hg⟩ := own_some hown (by omega)
    have HO := Lib.hid (And.intro hown hb3)
    have HM := Lib.hid hM
    clear hown hb3 e1 e2 e3 e4 e5 e6 hM hij hjn hn hc1 hc2
    go_wp2
    go_loopw [48] (fun x wr => ∃ k : Nat, x = .int .i64 k ∧ k ≤ M ∧ Hid (wr.ownsRow w2.heap.size ES 1 (.slice (some ⟨g, 0, none⟩) M cc) M ((mapL (sh1 left W) C k).map .string) ∧ Below w2.heap.size w2 wr)) (fun x _ => M - (RowKit.intOf x).toNat)
    case atStart => exact ⟨0, rfl, Nat.zero_le _, by rw [mapL_zero]; exact HO.out.1, HO.out.2⟩
    case round =>
      obtain ⟨k, rfl, hk, hQ⟩ := hrel
      by_cases hkM : k < M
      rotate_left
      · obtain rfl : k = M := by omega
        have hs := SrcV.ofOwn hQ.out.1 (one_cells _)
        rw [mapL_all _ _ hCl] at hs
        have hrep := replaced_any (some ⟨b, o, none⟩) n c' ls i j (some ⟨g, 0, none⟩) k cc (C.map (sh1 left W)) wr (SrcV.below HS.out (below_on HB2.out hQ.out.2)) hs HL.out.1 HL.out.2.1 HL.out.2.2.1
        have HB := Lib.hid (below_on HB2.out hQ.out.2)
        clear hs hQ
        go_wp2_with fail
        refine hrep.mono ?_
        rintro e w5 ⟨⟨f, ⟨oa, on, oc⟩, na, nn, nc⟩, rfl, hcw, hb4⟩
        simp only [cv, sv]
        have hb5 := below_on HB.out hb4
        have hr5 := H.out.2.2.below hb5 H.out.2.2.lt
        have m0 := hr5.c0
        have m1 : w5.cell? ⟨w.heap.size, 1, none⟩ = some (.slice none 0 0) := hr5.c1
        have m2 : w5.cell? ⟨w.heap.size, 2, none⟩ = some (.slice none 0 0) := hr5.c2
        have z := hr5.z
        have HE : Hid (ChAt (putC w5 w.heap.size (f, (oa, on, oc), (na, nn, nc))) w.heap.size (f, (oa, on, oc), (na, nn, nc)) ∧ CW (putC w5 w.heap.size (f, (oa, on, oc), (na, nn, nc))) (f, (oa, on, oc), (na, nn, nc)) ((i : Int), cutL ls i j, C.map (sh1 left W)) ∧ Below w.heap.size w (putC w5 w.heap.size (f, (oa, on, oc), (na, nn, nc)))) :=
          ⟨hr5.set _, CW.putC hcw hr5, putC_below (below_on H.out.2.1 hb5) (Nat.le_refl _) _⟩
        clear hrep hcw hb4 hb5 hr5
        go_wp2
        exact ret_cb (g := w.heap.size) rfl rfl rfl rfl HE.out.1 ⟨_, rfl, HE.out.2.1, HE.out.2.2⟩
      have hca := own_at hQ.out.1 hkM
      have hz := own_z hQ.out.1
      rw [mapL_at _ _ _ (by omega)] at hca
      have hset := own_map (s := sh1 left W (lineAt C k)) hQ.out.1 hkM
      rw [mapL_next _ _ _ (by omega)] at hset
      have hsz : (lineAt C k).size ≤ 1000000 := by
        have := tz_mem C _ (List.getElem_mem (show k < C.length by omega))
        rw [lineAt_get (by omega)]
        omega
      have hb5 := hQ.out.2.setCell (p := ⟨g, k, none⟩) hg (.string (sh1 left W (lineAt C k)))
      have hsame := mapL_same (sh1 left W) C k (by omega)
      have HP := Lib.hid (And.intro hset hb5)
      have HSM := Lib.hid (fun e => (show wr.ownsRow w2.heap.size ES 1 (.slice (some ⟨g, 0, none⟩) M cc) M ((mapL (sh1 left W) C (k + 1)).map .string) ∧ Below w2.heap.size w2 wr from ⟨by rw [hsame e]; exact hQ.out.1, hQ.out.2⟩))
      have hMb : M ≤ 1000001 := by have := HL.out.2.1; have := HL.out.2.2.1; have := HM.out; omega
      have hkl : (k : Int) < (M : Int) := by omega
      have hw : IntKind.i64.wrap ((k : Int) + 1) = ((k + 1 : Nat) : Int) := by rw [IntKind.wrap_i64]; omega
      clear hset hb5 hsame hQ
      obtain ⟨s, hs⟩ : ∃ s, s = lineAt C k := ⟨_, rfl⟩
      rw [← hs] at hca hsz HP HSM
      clear hs
      cases left with
      | true =>
        have hin := indent_any s W wr (by omega) (by omega)
        obtain ⟨q, hq⟩ : ∃ q, q = min W (bn s) := ⟨_, rfl⟩
        rw [← hq] at hin
        have hqs : q ≤ s.size := by have := bn_le s; omega
        rw [sh_left, ← hq] at HP
        clear hq HSM
        go_wp2_with fail
        refine hin.mono ?_
        rintro e w' ⟨rfl, rfl⟩
        clear hin
        go_wp2
        go_roundw
        case rel => exact ⟨k + 1, by go_num, by omega, HP⟩
        case measure => simp [RowKit.intOf]; omega
      | false =>
        by_cases h0 : s.size = 0
        · have hse : s = ⟨#[]⟩ := is_empty h0
          have HR := Lib.hid (HSM.out (sh_none h0))
          subst hse
          clear h0 HSM HP
          go_wp2
          go_roundw
          case rel => exact ⟨k + 1, by go_num, by omega, HR⟩
          case measure => simp [RowKit.intOf]; omega
        · have hse : s.toList.isEmpty = false := not_empty h0
          rw [sh_right h0] at HP
          have hrs := rep_size W 32
          clear h0 HSM
          go_wp2
          go_roundw
          case rel => exact ⟨k + 1, by go_num, by omega, HP⟩
          case measure => simp [RowKit.intOf]; omega
  · obtain rfl : K = N := by omega
    have hnk' : ¬ (1024 : Int) < (K : Int) := by omega
    have hmm : min (K : Int) 1024 = (K : Int) := by omega
    have g1 : ¬ ((K : Int) < 1) := by omega
    have g2 : ¬ ((i : Int) < 0) := by omega
    have g3 : ¬ ((j : Int) < (i : Int)) := by omega
    have g4 : ¬ ((n : Int) ≤ (j : Int)) := by omega
    have e1 : IntKind.i64.wrap ((j : Int) + 1) = ((j + 1 : Nat) : Int) := by rw [IntKind.wrap_i64]; omega
    have e2 : ((j + 1 : Nat) : Int) ≤ (c' : Int) := by omega
    have e3 : (i : Int) ≤ ((j + 1 : Nat) : Int) := by omega
    have e4 : c' ≠ i := by omega
    have e5 : IntKind.i64.wrap (4 * (K : Int)) = (W : Int) := by rw [IntKind.wrap_i64]; omega
    have e6 : (4 : Int) * (K : Int) = (W : Int) := by omega
    have HH := Lib.hid (And.intro h hb)
    have HWK := Lib.hid hW
    clear hX hb hr h hok h2 h0 h3 h4 hlen hC hW hK
    go_enter Try.func21, Try.ntmps21
    go_upto_region 4 with fail
    rw [← H.out.1]
    have hrp := repeat_any W X (by omega)
    go_wp2_with fail
    refine hrp.mono ?_
    rintro e w2 ⟨rfl, hb2⟩
    clear hrp
    have hcl := clone_own (some ⟨b, o + i, none⟩) (j + 1 - i) (c' - i) (cutL ls i j) w2 (cut_src (SrcV.below HS.out hb2) hij hjn) (by omega)
    rw [← hM, ← HL.out.2.2.2.2.1] at hcl
    have HB2 := Lib.hid hb2
    clear hb2
    go_wp2_with fail
    rw [← hM]
    refine hcl.mono ?_
    rintro e w3 ⟨ga, cc, rfl, hown, hb3⟩
    clear hcl
    obtain ⟨g, rfl, hg⟩ := own_some hown (by omega)
    have HO := Lib.hid (And.intro hown hb3)
    have HM := Lib.hid hM
    clear hown hb3 e1 e2 e3 e4 e5 e6 hM hij hjn hn hc1 hc2
    go_wp2
    go_loopw [48] (fun x wr => ∃ k : Nat, x = .int .i64 k ∧ k ≤ M ∧ Hid (wr.ownsRow w2.heap.size ES 1 (.slice (some ⟨g, 0, none⟩) M cc) M ((mapL (sh1 left W) C k).map .string) ∧ Below w2.heap.size w2 wr)) (fun x _ => M - (RowKit.intOf x).toNat)
    case atStart => exact ⟨0, rfl, Nat.zero_le _, by rw [mapL_zero]; exact HO.out.1, HO.out.2⟩
    case round =>
      obtain ⟨k, rfl, hk, hQ⟩ := hrel
      by_cases hkM : k < M
      rotate_left
      · obtain rfl : k = M := by omega
        have hs := SrcV.ofOwn hQ.out.1 (one_cells _)
        rw [mapL_all _ _ hCl] at hs
        have hrep := replaced_any (some ⟨b, o, none⟩) n c' ls i j (some ⟨g, 0, none⟩) k cc (C.map (sh1 left W)) wr (SrcV.below HS.out (below_on HB2.out hQ.out.2)) hs HL.out.1 HL.out.2.1 HL.out.2.2.1
        have HB := Lib.hid (below_on HB2.out hQ.out.2)
        clear hs hQ
        go_wp2_with fail
        refine hrep.mono ?_
        rintro e w5 ⟨⟨f, ⟨oa, on, oc⟩, na, nn, nc⟩, rfl, hcw, hb4⟩
        simp only [cv, sv]
        have hb5 := below_on HB.out hb4
        have hr5 := H.out.2.2.below hb5 H.out.2.2.lt
        have m0 := hr5.c0
        have m1 : w5.cell? ⟨w.heap.size, 1, none⟩ = some (.slice none 0 0) := hr5.c1
        have m2 : w5.cell? ⟨w.heap.size, 2, none⟩ = some (.slice none 0 0) := hr5.c2
        have z := hr5.z
        have HE : Hid (ChAt (putC w5 w.heap.size (f, (oa, on, oc), (na, nn, nc))) w.heap.size (f, (oa, on, oc), (na, nn, nc)) ∧ CW (putC w5 w.heap.size (f, (oa, on, oc), (na, nn, nc))) (f, (oa, on, oc), (na, nn, nc)) ((i : Int), cutL ls i j, C.map (sh1 left W)) ∧ Below w.heap.size w (putC w5 w.heap.size (f, (oa, on, oc), (na, nn, nc)))) :=
          ⟨hr5.set _, CW.putC hcw hr5, putC_below (below_on H.out.2.1 hb5) (Nat.le_refl _) _⟩
        clear hrep hcw hb4 hb5 hr5
        go_wp2
        exact ret_cb (g := w.heap.size) rfl rfl rfl rfl HE.out.1 ⟨_, rfl, HE.out.2.1, HE.out.2.2⟩
      have hca := own_at hQ.out.1 hkM
      have hz := own_z hQ.out.1
      rw [mapL_at _ _ _ (by omega)] at hca
      have hset := own_map (s := sh1 left W (lineAt C k)) hQ.out.1 hkM
      rw [mapL_next _ _ _ (by omega)] at hset
      have hsz : (lineAt C k).size ≤ 1000000 := by
        have := tz_mem C _ (List.getElem_mem (show k < C.length by omega))
        rw [lineAt_get (by omega)]
        omega
      have hb5 := hQ.out.2.setCell (p := ⟨g, k, none⟩) hg (.string (sh1 left W (lineAt C k)))
      have hsame := mapL_same (sh1 left W) C k (by omega)
      have HP := Lib.hid (And.intro hset hb5)
      have HSM := Lib.hid (fun e => (show wr.ownsRow w2.heap.size ES 1 (.slice (some ⟨g, 0, none⟩) M cc) M ((mapL (sh1 left W) C (k + 1)).map .string) ∧ Below w2.heap.size w2 wr from ⟨by rw [hsame e]; exact hQ.out.1, hQ.out.2⟩))
      have hMb : M ≤ 1000001 := by have := HL.out.2.1; have := HL.out.2.2.1; have := HM.out; omega
      have hkl : (k : Int) < (M : Int) := by omega
      have hw : IntKind.i64.wrap ((k : Int) + 1) = ((k + 1 : Nat) : Int) := by rw [IntKind.wrap_i64]; omega
      clear hset hb5 hsame hQ
      obtain ⟨s, hs⟩ : ∃ s, s = lineAt C k := ⟨_, rfl⟩
      rw [← hs] at hca hsz HP HSM
      clear hs
      cases left with
      | true =>
        have hin := indent_any s W wr (by omega) (by omega)
        obtain ⟨q, hq⟩ : ∃ q, q = min W (bn s) := ⟨_, rfl⟩
        rw [← hq] at hin
        have hqs : q ≤ s.size := by have := bn_le s; omega
        rw [sh_left, ← hq] at HP
        clear hq HSM
        go_wp2_with fail
        refine hin.mono ?_
        rintro e w' ⟨rfl, rfl⟩
        clear hin
        go_wp2
        go_roundw
        case rel => exact ⟨k + 1, by go_num, by omega, HP⟩
        case measure => simp [RowKit.intOf]; omega
      | false =>
        by_cases h0 : s.size = 0
        · have hse : s = ⟨#[]⟩ := is_empty h0
          have HR := Lib.hid (HSM.out (sh_none h0))
          subst hse
          clear h0 HSM HP
          go_wp2
          go_roundw
          case rel => exact ⟨k + 1, by go_num, by omega, HR⟩
          case measure => simp [RowKit.intOf]; omega
        · have hse : s.toList.isEmpty = false := not_empty h0
          rw [sh_right h0] at HP
          have hrs := rep_size W 32
          clear h0 HSM
          go_wp2
          go_roundw
          case rel => exact ⟨k + 1, by go_num, by omega, HP⟩
          case measure => simp [RowKit.intOf]; omega
end Go.Proofs.Ytkddnknjjdenhaa.Ed
