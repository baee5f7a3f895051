/-
  Package edit: indent, apart, Join.
-/
import Derived.Test.YtkddnknjjdenhaaEdy
import Derived.Test.YtkddnknjjdenhaaEdw
import Derived.Deep.CutBlock
set_option linter.unusedVariables false
set_option linter.unusedSimpArgs false
set_option maxRecDepth 100000
namespace Go.Proofs.Ytkddnknjjdenhaa.Ed
open Go Go.RowKit Go.Proofs.Ytkddnknjjdenhaa.Vk Go.Proofs.Ytkddnknjjdenhaa.Str Go.Proofs.Ytkddnknjjdenhaa.Ln Go.Proofs.Ytkddnknjjdenhaa.Cl Go.Proofs.Ytkddnknjjdenhaa.Mv
attribute [local go_sem] Oper.semAt_some

theorem not_empty {r : ByteArray} (h : ¬ r.size = 0) : r.toList.isEmpty = false := by
  rw [ByteArray.toList_eq, List.isEmpty_eq_false_iff]
  intro e
  apply h
  rw [← size_str, e]
  rfl
set_option maxHeartbeats 1000000 in
theorem indent_any (s : ByteArray) (m : Nat) (w : World) (hs : s.size ≤ 140737488355328) (hm : m ≤ 140737488355328) : Calls Try.prog 39 #[.string s, .int .i64 m] w fun e w' => e = .returned (.int .i64 ((min m (bn s) : Nat) : Int)) ∧ w = w' := by
  have hle := bn_le s
  by_cases hsm : s.size < m
  ·   go_enter Try.func39, Try.ntmps39
      go_wp2
      go_loop [5] (fun u => ∃ k : Nat, k ≤ m ∧ k ≤ bn s ∧ u = .int .i64 k) (fun u => s.size - (RowKit.intOf u).toNat)
      case atStart => exact ⟨0, Nat.zero_le _, Nat.zero_le _, rfl⟩
      case round =>
        obtain ⟨k, hk1, hk2, rfl⟩ := hrel
        by_cases hkm : k < s.size
        · have h2 := hkm
          have h1 : k < m := by omega
          have hc := fun W => of_any ((s[k]'h2).toNat : Int) true W
          have hlt : (k : Int) < min (m : Int) (s.size : Int) := by omega
          have hlt' : k < min m s.size := by omega
          have hw : IntKind.i64.wrap ((k : Int) + 1) = ((k + 1 : Nat) : Int) := by rw [IntKind.wrap_i64]; omega
          cases hb : bl (s[k]'h2) with
          | true =>
            have hlt2 : k < bn s := by
              rcases Nat.lt_or_ge k (bn s) with h | h
              · exact h
              · have h3 := bn_at (show k = bn s by omega) h2
                rw [hb] at h3
                cases h3
            have HB := Lib.hid hb
            rw [bl_cls hb] at hc
            clear hb
            go_wp2_with fail
            refine (hc _).mono ?_
            rintro e w' ⟨rfl, rfl⟩
            go_wp2
            go_round
            case rel => exact ⟨k + 1, by omega, by omega, by go_num⟩
            case measure => simp [RowKit.intOf]; omega
          | false =>
            have heq : k = bn s := by
              rcases Nat.lt_or_ge k (bn s) with h | h
              · have h3 := bn_lt h h2
                rw [hb] at h3
                cases h3
              · omega
            have HQ := Lib.hid heq
            rw [nb_cls hb] at hc
            clear hb heq
            go_wp2_with fail
            refine (hc _).mono ?_
            rintro e w' ⟨rfl, rfl⟩
            go_wp2
            go_ret
            exact ⟨ret_int (by have := HQ.out; omega), rfl⟩
        · have hlt : ¬ (k : Int) < min (m : Int) (s.size : Int) := by omega
          have hlt' : ¬ k < min m s.size := by omega
          go_wp2
          go_ret
          exact ⟨ret_int (by omega), rfl⟩
  ·   go_enter Try.func39, Try.ntmps39
      go_wp2
      go_loop [5] (fun u => ∃ k : Nat, k ≤ m ∧ k ≤ bn s ∧ u = .int .i64 k) (fun u => s.size - (RowKit.intOf u).toNat)
      case atStart => exact ⟨0, Nat.zero_le _, Nat.zero_le _, rfl⟩
      case round =>
        obtain ⟨k, hk1, hk2, rfl⟩ := hrel
        by_cases hkm : k < m
        · have h1 := hkm
          have h2 : k < s.size := by omega
          have hc := fun W => of_any ((s[k]'h2).toNat : Int) true W
          have hlt : (k : Int) < min (m : Int) (s.size : Int) := by omega
          have hlt' : k < min m s.size := by omega
          have hw : IntKind.i64.wrap ((k : Int) + 1) = ((k + 1 : Nat) : Int) := by rw [IntKind.wrap_i64]; omega
          cases hb : bl (s[k]'h2) with
          | true =>
            have hlt2 : k < bn s := by
              rcases Nat.lt_or_ge k (bn s) with h | h
              · exact h
              · have h3 := bn_at (show k = bn s by omega) h2
                rw [hb] at h3
                cases h3
            have HB := Lib.hid hb
            rw [bl_cls hb] at hc
            clear hb
            go_wp2_with fail
            refine (hc _).mono ?_
            rintro e w' ⟨rfl, rfl⟩
            go_wp2
            go_round
            case rel => exact ⟨k + 1, by omega, by omega, by go_num⟩
            case measure => simp [RowKit.intOf]; omega
          | false =>
            have heq : k = bn s := by
              rcases Nat.lt_or_ge k (bn s) with h | h
              · have h3 := bn_lt h h2
                rw [hb] at h3
                cases h3
              · omega
            have HQ := Lib.hid heq
            rw [nb_cls hb] at hc
            clear hb heq
            go_wp2_with fail
            refine (hc _).mono ?_
            rintro e w' ⟨rfl, rfl⟩
            go_wp2
            go_ret
            exact ⟨ret_int (by have := HQ.out; omega), rfl⟩
        · have hlt : ¬ (k : Int) < min (m : Int) (s.size : Int) := by omega
          have hlt' : ¬ k < min m s.size := by omega
          go_wp2
          go_ret
          exact ⟨ret_int (by omega), rfl⟩

theorem apart_any {B : Nat} (a : Option Addr) (n c : Nat) (bs r : ByteArray) (w : World) (h : OwnB w B a n c bs) (hn : n ≤ 1000000000) (hr : r.size ≤ 140737488355328) : Calls Try.prog 40 #[.slice a n c, .string r] w fun e w' => e = .returned (.bool (apt bs r)) ∧ w = w' := by
  have hsz := h.1
  obtain ⟨g, rfl, _⟩ := h.ptr
  have hcap := h.cap
  by_cases h0 : n = 0
  · rw [show apt bs r = false from dif_neg (by omega)]
    subst h0
    clear h
    go_enter Try.func40, Try.ntmps40
    go_wp2
    go_ret
    exact ⟨rfl, rfl⟩
  have e0 : ((n : Int) == 0) = false := by rw [beq_eq_false_iff_ne]; omega
  by_cases h1 : r.size = 0
  · rw [show apt bs r = false from dif_neg (by omega)]
    obtain rfl : r = ⟨#[]⟩ := by
      apply ByteArray.ext
      exact Array.eq_empty_of_size_eq_zero h1
    clear h
    go_enter Try.func40, Try.ntmps40
    go_wp2
    go_ret
    exact ⟨rfl, rfl⟩
  have e1 : r.toList.isEmpty = false := not_empty h1
  have hA : apt bs r = (!bl (bs[bs.size - 1]'(by omega)) && decide ((r[0]'(by omega)) ≠ 41)) := dif_pos ⟨by omega, by omega⟩
  rw [hA]
  have hc := h.cell (bs.size - 1) (by omega)
  have e2 : IntKind.i64.wrap ((n : Int) - 1) = ((bs.size - 1 : Nat) : Int) := by rw [IntKind.wrap_i64]; omega
  have e3 : ((bs.size - 1 : Nat) : Int) < (n : Int) := by omega
  have hr0 : 0 < r.size := by omega
  obtain ⟨q, hq⟩ : ∃ q, q = bs.size - 1 := ⟨_, rfl⟩
  have hqs : q < bs.size := by omega
  have hx : bs[bs.size - 1]'(by omega) = bs[q]'hqs := by congr 1; omega
  rw [hx] at hc
  rw [hx]
  rw [← hq] at hc e2 e3
  have ho := fun W => of_any ((bs[q]'hqs).toNat : Int) true W
  have ho : ∀ W, Calls Try.prog 54 #[.int .u8 ((bs[q]'hqs).toNat : Int), .bool true] W fun e w' => e = .returned (.int .i64 (if bl (bs[q]'hqs) = true then 0 else 1)) ∧ W = w' := fun W => by
    have h1 := ho W
    cases hb : bl (bs[q]'hqs) with
    | true => rw [bl_cls hb] at h1; exact h1
    | false => rw [nb_cls hb] at h1; exact h1
  generalize bl (bs[q]'hqs) = p at *
  generalize ((bs[q]'hqs).toNat : Int) = cc at *
  have hd : (((r[0]'hr0).toNat : Int) == 41) = !decide ((r[0]'hr0) ≠ 41) := by
    by_cases e : r[0]'hr0 = 41
    · rw [e]; rfl
    · rw [decide_eq_true e, beq_eq_false_iff_ne.2]
      · rfl
      · intro h'
        apply e
        apply UInt8.toNat_inj.1
        have : (41 : UInt8).toNat = 41 := rfl
        omega
  generalize decide ((r[0]'hr0) ≠ 41) = d at *
  clear h hA hx hq
  go_enter Try.func40, Try.ntmps40
  go_wp2_with fail
  refine (ho _).mono ?_
  rintro e w' ⟨rfl, rfl⟩
  clear ho
  cases p with
  | true =>
    go_wp2
    go_ret
    exact ⟨rfl, rfl⟩
  | false =>
    simp only [Bool.false_eq_true, if_false]
    go_wp2
    go_ret
    exact ⟨ret_bool (by show (!((((r[0]'hr0).toNat : Int)) == 41)) = _; rw [hd, Bool.not_not]; rfl), rfl⟩

/-- The column that the loop leaves. -/
def jcol (ls : List ByteArray) (i : Nat) : Nat → Nat
  | 0 => 0
  | k + 1 => (jJ ls i k).size
/-- What stands between the rounds. -/
structure Jq (X wr : World) (ls : List ByteArray) (i k : Nat) (a : Option Addr) (c : Nat) : Prop where
  own : OwnB wr X.heap.size a (jJ ls i k).size c (jJ ls i k)
  below : Below X.heap.size X wr
theorem src_byte (w : World) : Src Try.prog 1 69 (.slice (some ⟨w.heap.size, 0, none⟩) 1 1) 1 (byteCells ⟨#[32]⟩) (w.alloc (.cells #[.int .u8 32] TU)) :=
  Src.ofSlice (P := Try.prog) _ underU ⟨w.heap.size, 0, none⟩ 1 1 (byteCells ⟨#[32]⟩) rfl (fun j u hj => by
    have h0 : j = 0 := by
      have := (List.getElem?_eq_some_iff.1 hj).1
      have h1 : (byteCells ⟨#[32]⟩).length = 1 := rfl
      omega
    subst h0
    have e : u = .int .u8 32 := by
      have h2 : (byteCells ⟨#[32]⟩)[0]? = some (.int .u8 32) := rfl
      rw [h2] at hj
      exact (Option.some.inj hj).symm
    subst e
    rw [Addr.add_lit]
    exact (cell_of_row _ w.heap.size 0 _ _ _ (heap_alloc_new w _)).trans rfl) (fun u hu => by
    have h2 : u ∈ [Value.int .u8 32] := hu
    rw [List.mem_singleton] at h2
    subst h2
    rfl)
set_option maxHeartbeats 4000000 in
theorem join_any (a : Option Addr) (n c' : Nat) (ls : List ByteArray) (l m : Int) (w : World) (h : Ss w a n c' ls) (hn : n ≤ 1000000) (ht : tz ls ≤ 1000000) (hlb : l ≤ 9223372036854775807) :
    Calls Try.prog 19 #[.slice a n c', .int .i64 l, .int .i64 m] w fun e w' => JOut w (jan ls l m) e w' := by
  have hlen := h.length
  obtain ⟨X, hX⟩ : ∃ X, X = w.alloc (.cells #[.int .i64 0, .slice none 0 0, .slice none 0 0] TC) := ⟨_, rfl⟩
  obtain ⟨hb, hr⟩ := zero_pair w
  rw [← hX] at hb hr
  have H := Lib.hid (And.intro (show X = w.alloc (.cells #[.int .i64 0, .slice none 0 0, .slice none 0 0] 31) from hX) (And.intro hb hr))
  by_cases hok : jOk ls l m
  rotate_left
  · rw [show jan ls l m = ((0, [], []), 0, false) from if_neg hok]
    have m0 := hr.c0
    have m1 : X.cell? ⟨w.heap.size, 1, none⟩ = some (.slice none 0 0) := hr.c1
    have m2 : X.cell? ⟨w.heap.size, 2, none⟩ = some (.slice none 0 0) := hr.c2
    have z := hr.z
    have HE : Hid (ChAt (putC X w.heap.size (0, (none, 0, 0), (none, 0, 0))) w.heap.size (0, (none, 0, 0), (none, 0, 0)) ∧ Below w.heap.size w (putC X w.heap.size (0, (none, 0, 0), (none, 0, 0)))) := ⟨hr.set _, putC_below hb (Nat.le_refl _) _⟩
    have hcase : m < 2 ∨ (2 ≤ m ∧ l < 0) ∨ (2 ≤ m ∧ 0 ≤ l ∧ (n : Int) - l < m) := by unfold jOk at hok; omega
    clear hX hb hr h hok
    rcases hcase with c1 | ⟨c1, c2⟩ | ⟨c1, c2, c3⟩
    · go_enter Try.func19, Try.ntmps19
      go_upto_region 2 with fail
      rw [← H.out.1]
      go_wp2
      exact ret_cib (g := w.heap.size) rfl rfl rfl rfl rfl HE.out.1 ⟨_, rfl, CW.zero _, HE.out.2⟩
    · go_enter Try.func19, Try.ntmps19
      go_upto_region 2 with fail
      rw [← H.out.1]
      go_wp2
      exact ret_cib (g := w.heap.size) rfl rfl rfl rfl rfl HE.out.1 ⟨_, rfl, CW.zero _, HE.out.2⟩
    · have e1 : IntKind.i64.wrap ((n : Int) - l) = (n : Int) - l := by rw [IntKind.wrap_i64]; omega
      go_enter Try.func19, Try.ntmps19
      go_upto_region 2 with fail
      rw [← H.out.1]
      go_wp2
      exact ret_cib (g := w.heap.size) rfl rfl rfl rfl rfl HE.out.1 ⟨_, rfl, CW.zero _, HE.out.2⟩
  obtain ⟨h2, h0, h3⟩ := id hok
  obtain ⟨i, rfl⟩ : ∃ i : Nat, l = i := ⟨l.toNat, by omega⟩
  obtain ⟨N, rfl⟩ : ∃ N : Nat, m = N := ⟨m.toNat, by omega⟩
  have HJ : Hid (jan ls i N = ((((i : Nat) : Int), cutL ls i (i + N - 1), [jJ ls i (N - 1)]), (jc (jJ ls i (N - 2)) (lineAt ls (i + N - 1)) : Int), true)) := by
    show _ = _
    unfold jan
    rw [if_pos hok, show ((i : Int) + (N : Int) - 1).toNat = i + N - 1 by omega, show ((i : Int)).toNat = i by omega, show ((N : Int) - 1).toNat = N - 1 by omega, show ((N : Int) - 2).toNat = N - 2 by omega]
  rw [HJ.out]
  obtain ⟨b, o, rfl, hcx, hnc, _⟩ := Ss.read h i (by omega)
  rw [← lineAt_get (by omega)] at hcx
  have hsz : (lineAt ls i).size ≤ 1000000 := by have := jJ_size (ls := ls) (i := i) (k := 0) (by omega); unfold jJ at this; omega
  have hcxX := cell_later hb hcx
  obtain ⟨c0, w2, hcv, hB0, hb2⟩ := conv_in X (lineAt ls i) (by omega)
  have HS := Lib.hid (And.intro (SrcV.below h hb) (And.intro hB0 hb2))
  have HL := Lib.hid (And.intro hok (And.intro hlen (And.intro ht hn)))
  obtain ⟨hc1, hc2⟩ := cap_src h (by omega)
  have g1 : ¬ ((N : Int) < 2) := by omega
  have g2 : ¬ ((i : Int) < 0) := by omega
  have g3 : IntKind.i64.wrap ((n : Int) - (i : Int)) = (n : Int) - (i : Int) := by rw [IntKind.wrap_i64]; omega
  have g4 : ¬ ((n : Int) - (i : Int) < (N : Int)) := by omega
  have g5 : (i : Int) < (n : Int) := by omega
  have e1 : IntKind.i64.wrap ((i : Int) + 1) = ((i + 1 : Nat) : Int) := by rw [IntKind.wrap_i64]; omega
  have e2 : IntKind.i64.wrap ((i : Int) + (N : Int)) = ((i + N : Nat) : Int) := by rw [IntKind.wrap_i64]; omega
  have e3 : ((i + N : Nat) : Int) ≤ (c' : Int) := by omega
  have e4 : ((i + 1 : Nat) : Int) ≤ ((i + N : Nat) : Int) := by omega
  have e5 : c' ≠ i + 1 := by omega
  have e6 : ((i + N : Nat) : Int).toNat = i + N := by omega
  have e7 : ((i + 1 : Nat) : Int).toNat = i + 1 := by omega
  have e8 : i + N - (i + 1) = N - 1 := by omega
  have e9 : 1 ≤ N - 1 := by omega
  clear hX hb hr h hok h2 h0 h3 hlb ht hlen hB0 hb2 hn hcx
  go_enter Try.func19, Try.ntmps19
  go_upto_region 3 with fail
  rw [← H.out.1]
  go_wp2
  obtain ⟨M, hM⟩ : ∃ M, M = N - 1 := ⟨_, rfl⟩
  rw [← hM] at e9
  rw [← hM]
  have HM := Lib.hid hM
  clear hcv hcxX g1 g2 g3 g4 g5 e1 e2 e3 e4 e5 e6 e7 e8 hM
  go_loopw [9, 10, 42] (fun u v x wr => ∃ (k cc : Nat) (a : Option Addr), u = .slice a (jJ ls i k).size cc ∧ v = .int .i64 (jcol ls i k) ∧ x = .int .i64 k ∧ k ≤ M ∧ Hid (Jq X wr ls i k a cc)) (fun _ _ x _ => M - (RowKit.intOf x).toNat)
  case atStart => exact ⟨0, c0, some ⟨X.heap.size, 0, none⟩, rfl, rfl, rfl, Nat.zero_le _, ⟨HS.out.2.1, HS.out.2.2⟩⟩
  case round =>
    obtain ⟨k, cc, a, rfl, rfl, rfl, hk, hQ⟩ := hrel
    by_cases hkM : k < M
    rotate_left
    · obtain rfl : k = M := by omega
      obtain ⟨hlen, htz, hn⟩ := HL.out.2
      have hok := HL.out.1
      have hM := HM.out
      unfold jOk at hok
      have hcv := conv_out hQ.out.own
      have hsz := jJ_size (ls := ls) (i := i) (k := k) (by omega)
      obtain ⟨p, hp⟩ : ∃ p, k = p + 1 := ⟨k - 1, by omega⟩
      have hst : jJ ls i k = jstep (jJ ls i p) (lineAt ls (i + N - 1)) := by
        subst hp
        show jstep (jJ ls i p) (lineAt ls (i + 1 + p)) = _
        rw [show i + 1 + p = i + N - 1 by omega]
      have hcl : jcol ls i k = (jJ ls i p).size := by subst hp; rfl
      have hjm := jc_min (jJ ls i p) (lineAt ls (i + N - 1))
      rw [← hst, ← hcl] at hjm
      obtain ⟨q, hq⟩ : ∃ q, q = jcol ls i k := ⟨_, rfl⟩
      obtain ⟨s, hs⟩ : ∃ s, s = jJ ls i k := ⟨_, rfl⟩
      obtain ⟨T, hT⟩ : ∃ T, T = jc (jJ ls i p) (lineAt ls (i + N - 1)) := ⟨_, rfl⟩
      have hqs : q ≤ s.size := by
        rw [hq, hs, hcl, hst, jstep_size]
        omega
      have hHT : Hid (((((i : Nat) : Int), cutL ls i (i + N - 1), [jJ ls i (N - 1)]), (jc (jJ ls i (N - 2)) (lineAt ls (i + N - 1)) : Int), true) = ((((i : Nat) : Int), cutL ls i (i + N - 1), [s]), (T : Int), true) ∧ T = min q (s.size - 1)) := by
        refine ⟨?_, by rw [hT, ← hjm, ← hq, ← hs]⟩
        rw [hT, hs, show N - 1 = k by omega, show N - 2 = p by omega]
      have HT := hHT
      rw [← hs] at hcv hsz
      rw [← hq, ← hs]
      obtain ⟨sz, hz⟩ : ∃ sz, sz = s.size := ⟨_, rfl⟩
      rw [← hz] at hcv hsz hqs HT
      rw [← hz]
      obtain ⟨Y, hY⟩ : ∃ Y, Y = wr.alloc (.cells #[.string s] 9) := ⟨_, rfl⟩
      have hbY : Below X.heap.size X Y := by rw [hY]; exact hQ.out.below.alloc hQ.out.below.size _
      have hlit : Ss Y (some ⟨wr.heap.size, 0, none⟩) 1 1 [s] := by
        rw [hY]
        exact SrcV.lit wr #[.string s] ES 1 rfl (by simp [Value.oneCell']) (by simp [maxLen])
      have hrep := replaced_any (some ⟨b, o, none⟩) n c' ls i (i + N - 1) (some ⟨wr.heap.size, 0, none⟩) 1 1 [s] Y (SrcV.below HS.out.1 hbY) hlit (by omega) (by omega) hn
      have HY := Lib.hid (And.intro hY hbY)
      have e1 : IntKind.i64.wrap ((i : Int) + (N : Int)) = ((i + N : Nat) : Int) := by rw [IntKind.wrap_i64]; omega
      have e2 : IntKind.i64.wrap ((i : Int) + (N : Int) - 1) = ((i + N - 1 : Nat) : Int) := by rw [IntKind.wrap_i64]; omega
      have e3 : IntKind.i64.wrap ((sz : Int) - 1) = (sz : Int) - 1 := by rw [IntKind.wrap_i64]; omega
      have e4 : ¬ ((k : Int) < (k : Int)) := by omega
      clear hlen htz hn hok hM hst hcl hjm hq hs hT hY hbY hlit hHT hp hQ hz
      by_cases f0 : sz = 0
      · subst f0
        obtain rfl : q = 0 := by omega
        clear hqs
        go_wp2_with fail
        rw [show wr.alloc (.cells #[.string s] 9) = Y from HY.out.1.symm]
        refine hrep.mono ?_
        rintro e w4 ⟨⟨f, ⟨oa, on, oc⟩, na, nn, nc⟩, rfl, hcw, hb4⟩
        simp only [cv, sv]
        have hb5 := below_on HY.out.2 hb4
        have hr5 := H.out.2.2.below hb5 H.out.2.2.lt
        have m0 := hr5.c0
        have m1 : w4.cell? ⟨w.heap.size, 1, none⟩ = some (.slice none 0 0) := hr5.c1
        have m2 : w4.cell? ⟨w.heap.size, 2, none⟩ = some (.slice none 0 0) := hr5.c2
        have z := hr5.z
        have HE : Hid (ChAt (putC w4 w.heap.size (f, (oa, on, oc), (na, nn, nc))) w.heap.size (f, (oa, on, oc), (na, nn, nc)) ∧ CW (putC w4 w.heap.size (f, (oa, on, oc), (na, nn, nc))) (f, (oa, on, oc), (na, nn, nc)) (i, cutL ls i (i + N - 1), [s]) ∧ Below w.heap.size w (putC w4 w.heap.size (f, (oa, on, oc), (na, nn, nc)))) :=
          ⟨hr5.set _, hcw.putC hr5, putC_below (below_on H.out.2.1 hb5) (Nat.le_refl _) _⟩
        clear hrep hcw hb4 hb5 hr5
        go_wp2
        rw [HT.out.1]
        exact ret_cib (g := w.heap.size) rfl rfl (congrArg (Value.int .i64) (show _ = (T : Int) by have := HT.out.2; omega)) rfl rfl HE.out.1 ⟨_, rfl, HE.out.2.1, HE.out.2.2⟩
      have f1 : ¬ ((sz : Int) - 1 < 0) := by omega
      by_cases f3 : (sz : Int) - 1 < (q : Int)
      · clear hqs
        go_wp2_with fail
        rw [show wr.alloc (.cells #[.string s] 9) = Y from HY.out.1.symm]
        refine hrep.mono ?_
        rintro e w4 ⟨⟨f, ⟨oa, on, oc⟩, na, nn, nc⟩, rfl, hcw, hb4⟩
        simp only [cv, sv]
        have hb5 := below_on HY.out.2 hb4
        have hr5 := H.out.2.2.below hb5 H.out.2.2.lt
        have m0 := hr5.c0
        have m1 : w4.cell? ⟨w.heap.size, 1, none⟩ = some (.slice none 0 0) := hr5.c1
        have m2 : w4.cell? ⟨w.heap.size, 2, none⟩ = some (.slice none 0 0) := hr5.c2
        have z := hr5.z
        have HE : Hid (ChAt (putC w4 w.heap.size (f, (oa, on, oc), (na, nn, nc))) w.heap.size (f, (oa, on, oc), (na, nn, nc)) ∧ CW (putC w4 w.heap.size (f, (oa, on, oc), (na, nn, nc))) (f, (oa, on, oc), (na, nn, nc)) (i, cutL ls i (i + N - 1), [s]) ∧ Below w.heap.size w (putC w4 w.heap.size (f, (oa, on, oc), (na, nn, nc)))) :=
          ⟨hr5.set _, hcw.putC hr5, putC_below (below_on H.out.2.1 hb5) (Nat.le_refl _) _⟩
        clear hrep hcw hb4 hb5 hr5
        go_wp2
        rw [HT.out.1]
        exact ret_cib (g := w.heap.size) rfl rfl (congrArg (Value.int .i64) (show _ = (T : Int) by have := HT.out.2; omega)) rfl rfl HE.out.1 ⟨_, rfl, HE.out.2.1, HE.out.2.2⟩
      · clear hqs
        go_wp2_with fail
        rw [show wr.alloc (.cells #[.string s] 9) = Y from HY.out.1.symm]
        refine hrep.mono ?_
        rintro e w4 ⟨⟨f, ⟨oa, on, oc⟩, na, nn, nc⟩, rfl, hcw, hb4⟩
        simp only [cv, sv]
        have hb5 := below_on HY.out.2 hb4
        have hr5 := H.out.2.2.below hb5 H.out.2.2.lt
        have m0 := hr5.c0
        have m1 : w4.cell? ⟨w.heap.size, 1, none⟩ = some (.slice none 0 0) := hr5.c1
        have m2 : w4.cell? ⟨w.heap.size, 2, none⟩ = some (.slice none 0 0) := hr5.c2
        have z := hr5.z
        have HE : Hid (ChAt (putC w4 w.heap.size (f, (oa, on, oc), (na, nn, nc))) w.heap.size (f, (oa, on, oc), (na, nn, nc)) ∧ CW (putC w4 w.heap.size (f, (oa, on, oc), (na, nn, nc))) (f, (oa, on, oc), (na, nn, nc)) (i, cutL ls i (i + N - 1), [s]) ∧ Below w.heap.size w (putC w4 w.heap.size (f, (oa, on, oc), (na, nn, nc)))) :=
          ⟨hr5.set _, hcw.putC hr5, putC_below (below_on H.out.2.1 hb5) (Nat.le_refl _) _⟩
        clear hrep hcw hb4 hb5 hr5
        go_wp2
        rw [HT.out.1]
        exact ret_cib (g := w.heap.size) rfl rfl (congrArg (Value.int .i64) (show _ = (T : Int) by have := HT.out.2; omega)) rfl rfl HE.out.1 ⟨_, rfl, HE.out.2.1, HE.out.2.2⟩
    obtain ⟨hlen, htz, hn⟩ := HL.out.2
    have hok := HL.out.1
    have hM := HM.out
    unfold jOk at hok
    have hi : i + 1 + k < ls.length := by omega
    obtain ⟨b', o', he, hcx, _⟩ := Ss.read (SrcV.below HS.out.1 hQ.out.below) (i + 1 + k) hi
    simp only [Option.some.injEq, Addr.mk.injEq, and_true] at he
    obtain ⟨rfl, rfl⟩ := he
    rw [← lineAt_get hi, ← Nat.add_assoc] at hcx
    have hsz : (lineAt ls (i + 1 + k)).size ≤ 1000000 := by
      have := tz_mem ls _ (List.getElem_mem hi)
      rw [lineAt_get hi]
      omega
    have hjz := jJ_size (ls := ls) (i := i) (k := k) (by omega)
    have hjn : jJ ls i (k + 1) = jstep (jJ ls i k) (lineAt ls (i + 1 + k)) := rfl
    have hjc : jcol ls i (k + 1) = (jJ ls i k).size := rfl
    clear hlen hn hok hM hi
    obtain ⟨t, ht⟩ : ∃ t, t = lineAt ls (i + 1 + k) := ⟨_, rfl⟩
    rw [← ht] at hcx hsz hjn
    obtain ⟨s, hs⟩ : ∃ s, s = jJ ls i k := ⟨_, rfl⟩
    rw [← hs] at hjz hjn hjc
    have hown := hQ.out.own
    rw [← hs] at hown
    rw [← hs]
    have HJN := Lib.hid hjn
    have HJC := Lib.hid hjc
    have HB := Lib.hid hQ.out.below
    have hin := indent_any t t.size wr (by omega) (by omega)
    rw [Nat.min_eq_right (bn_le t)] at hin
    have hap := apart_any a s.size cc s (strip t) wr hown (by omega) (by rw [strip_size]; omega)
    have hst : t.extract (bn t) t.size = strip t := rfl
    have hbt := bn_le t
    have hstz := strip_size t
    have hjs := jstep_size s t
    have hkM' : (k : Int) < (M : Int) := by omega
    have hw : IntKind.i64.wrap ((k : Int) + 1) = ((k + 1 : Nat) : Int) := by rw [IntKind.wrap_i64]; omega
    have hXs := HB.out.size
    have HOWN := Lib.hid hown
    have HSS := Lib.hid hs
    have HTT := Lib.hid ht
    clear hown hjn hjc hs ht hQ
    obtain ⟨r, hr⟩ : ∃ r, r = strip t := ⟨_, rfl⟩
    rw [← hr] at hap hst hstz
    have HR := Lib.hid hr
    unfold jstep at HJN
    rw [← hr] at HJN
    clear hr hjs
    have hrz : r.size ≤ 1000000 := by omega
    clear hstz
    go_wp2_with fail
    refine hin.mono ?_
    rintro e w' ⟨rfl, rfl⟩
    clear hin
    go_wp2_with fail
    refine hap.mono ?_
    rintro e w' ⟨rfl, rfl⟩
    clear hap hcx
    cases hq : apt s r with
    | true =>
      have HA := HJN.out
      rw [if_pos hq] at HA
      have HJ2 := Lib.hid HA
      have h1 := Lib.hid (HOWN.out.below (one_below wr (.cells #[.int .u8 32] TU)))
      have hx1 := Lib.hid (src_byte wr)
      have hsz1 : X.heap.size ≤ (wr.alloc (.cells #[.int .u8 32] TU)).heap.size := by simp; omega
      clear HA hq
      go_wp2_with (first | (at_builtin; refine step_append_b _ rfl _ _ 69 rfl rfl h1.out _ rfl hx1.out (by omega) hsz1 ?_; intro a2 c2 w2' hown2 hb2; have h2 := Lib.hid hown2; have HB2 := Lib.hid (HB.out.trans ((one_below wr (.cells #[.int .u8 32] TU)).mono hXs |>.trans hb2)); have hsz2 := HB2.out.size; clear hown2 hb2) | (at_builtin; refine step_append_b _ rfl _ _ 9 rfl rfl h2.out _ rfl (Src.ofString _ Try.underlying9 r) (by omega) hsz2 ?_; intro a3 c3 w3 hown3 hb3; have h3 := Lib.hid (And.intro hown3 (HB2.out.trans hb3)); clear hown3 hb3))
      go_roundw
      case rel =>
        refine ⟨k + 1, c3, a3, ?_, by rw [HJC.out], by go_num, by omega, ?_⟩
        · rw [HJ2.out, ByteArray.size_append, ByteArray.size_append]
          rfl
        · refine ⟨?_, h3.out.2⟩
          rw [HJ2.out, ByteArray.size_append, ByteArray.size_append]
          exact h3.out.1
      case measure => simp [RowKit.intOf]; omega
    | false =>
      have HA := HJN.out
      rw [if_neg (by rw [hq]; decide)] at HA
      have HJ2 := Lib.hid HA
      clear HA hq
      go_wp2_with (at_builtin; refine step_append_b _ rfl _ _ 9 rfl rfl HOWN.out _ rfl (Src.ofString _ Try.underlying9 r) (by omega) hXs ?_; intro a3 c3 w3 hown3 hb3; have h3 := Lib.hid (And.intro hown3 (HB.out.trans hb3)); clear hown3 hb3)
      go_roundw
      case rel =>
        refine ⟨k + 1, c3, a3, ?_, by rw [HJC.out], by go_num, by omega, ?_⟩
        · rw [HJ2.out, ByteArray.size_append]
        · refine ⟨?_, h3.out.2⟩
          rw [HJ2.out, ByteArray.size_append]
          exact h3.out.1
      case measure => simp [RowKit.intOf]; omega
end Go.Proofs.Ytkddnknjjdenhaa.Ed
