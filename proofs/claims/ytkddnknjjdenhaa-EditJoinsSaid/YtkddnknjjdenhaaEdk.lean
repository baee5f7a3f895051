/-
  The document's JoinLines.
-/
import Derived.Test.YtkddnknjjdenhaaEdj
set_option linter.unusedVariables false
set_option linter.unusedSimpArgs false
set_option maxRecDepth 100000
namespace Go.Proofs.Ytkddnknjjdenhaa.Ed
open Go Go.RowKit Go.Proofs.Ytkddnknjjdenhaa.Vk Go.Proofs.Ytkddnknjjdenhaa.Str Go.Proofs.Ytkddnknjjdenhaa.Ln Go.Proofs.Ytkddnknjjdenhaa.Cl Go.Proofs.Ytkddnknjjdenhaa.Mv
attribute [local go_sem] Oper.semAt_some

def dcol (ls : List ByteArray) (i : Nat) : Nat → Nat
  | 0 => 0
  | k + 1 => jc (jJ ls i k) (lineAt ls (i + 1 + k))
def szOf : Value → Nat
  | .string s => s.size
  | _ => 0
theorem of5_bl (b : UInt8) (W : World) : Calls Try.prog 27 #[.int .u8 (b.toNat : Int), .bool true] W fun e w' => e = .returned (.int .i64 (if bl b = true then 0 else 1)) ∧ W = w' := by
  have h1 := of5_any (b.toNat : Int) true W
  cases hb : bl b with
  | true => rw [bl_cls hb] at h1; exact h1
  | false => rw [nb_cls hb] at h1; exact h1
theorem is_empty {r : ByteArray} (h : r.size = 0) : r = ⟨#[]⟩ := by
  apply ByteArray.ext
  exact Array.eq_empty_of_size_eq_zero h
theorem byte41 (b : UInt8) : ((b.toNat : Int) == 41) = decide (b = 41) := by
  by_cases e : b = 41
  · subst e; rfl
  · rw [decide_eq_false e, beq_eq_false_iff_ne]
    intro h'
    apply e
    apply UInt8.toNat_inj.1
    have : (41 : UInt8).toNat = 41 := rfl
    omega
theorem app_empty (s : ByteArray) : s ++ (⟨#[]⟩ : ByteArray) = s := So.str_ext (by simp)

set_option maxHeartbeats 4000000 in
theorem join19_any (a : Option Addr) (n c' : Nat) (ls : List ByteArray) (l m : Int) (w : World) (h : Ss w a n c' ls) (hn : n ≤ 1000000) (ht : tz ls ≤ 1000000) (hlb : l ≤ 9223372036854775807) :
    Calls Try.prog 20 #[.slice a n c', .int .i64 l, .int .i64 m] w fun e w' => JOut w (jan ls l m) e w' := by
  have hlen := h.length
  obtain ⟨X, hX⟩ : ∃ X, X = w.alloc (.cells #[.int .i64 0, .slice none 0 0, .slice none 0 0] TC) := ⟨_, rfl⟩
  obtain ⟨hb, hr⟩ := zero_pair w
  rw [← hX] at hb hr
  have H := Lib.hid (And.intro (show X = w.alloc (.cells #[.int .i64 0, .slice none 0 0, .slice none 0 0] 31) from hX) (And.intro hb hr))
  by_cases hok : jOk ls l m
  rotate_left
  · rw [show jan ls l m = ((0, [], []), 0, false) from if_neg hok]
    have m0 := hr.c0
    have m1 : X.cell? ⟨w.heap.size, 1, none⟩ = some (.slice none 0 0) := hr.c1
    have m2 : X.cell? ⟨w.heap.size, 2, none⟩ = some (.slice none 0 0) := hr.c2
    have z := hr.z
    have HE : Hid (ChAt (putC X w.heap.size (0, (none, 0, 0), (none, 0, 0))) w.heap.size (0, (none, 0, 0), (none, 0, 0)) ∧ Below w.heap.size w (putC X w.heap.size (0, (none, 0, 0), (none, 0, 0)))) := ⟨hr.set _, putC_below hb (Nat.le_refl _) _⟩
    have hcase : m < 2 ∨ (2 ≤ m ∧ l < 0) ∨ (2 ≤ m ∧ 0 ≤ l ∧ (n : Int) ≤ l) ∨ (2 ≤ m ∧ 0 ≤ l ∧ l < (n : Int) ∧ (n : Int) - l < m) := by unfold jOk at hok; omega
    clear hX hb hr h hok
    rcases hcase with c1 | ⟨c1, c2⟩ | ⟨c1, c2, c3⟩ | ⟨c1, c2, c3, c4⟩
    · skip
      go_enter Try.func20, Try.ntmps20
      go_upto_region 2 with fail
      rw [← H.out.1]
      go_wp2
      exact ret_cib (g := w.heap.size) rfl rfl rfl rfl rfl HE.out.1 ⟨_, rfl, CW.zero _, HE.out.2⟩
    · skip
      go_enter Try.func20, Try.ntmps20
      go_upto_region 2 with fail
      rw [← H.out.1]
      go_wp2
      exact ret_cib (g := w.heap.size) rfl rfl rfl rfl rfl HE.out.1 ⟨_, rfl, CW.zero _, HE.out.2⟩
    · skip
      go_enter Try.func20, Try.ntmps20
      go_upto_region 2 with fail
      rw [← H.out.1]
      go_wp2
      exact ret_cib (g := w.heap.size) rfl rfl rfl rfl rfl HE.out.1 ⟨_, rfl, CW.zero _, HE.out.2⟩
    · have e1 : IntKind.i64.wrap ((n : Int) - l) = (n : Int) - l := by rw [IntKind.wrap_i64]; omega
      go_enter Try.func20, Try.ntmps20
      go_upto_region 2 with fail
      rw [← H.out.1]
      go_wp2
      exact ret_cib (g := w.heap.size) rfl rfl rfl rfl rfl HE.out.1 ⟨_, rfl, CW.zero _, HE.out.2⟩
  obtain ⟨h2, h0, h3⟩ := id hok
  obtain ⟨i, rfl⟩ : ∃ i : Nat, l = i := ⟨l.toNat, by omega⟩
  obtain ⟨N, rfl⟩ : ∃ N : Nat, m = N := ⟨m.toNat, by omega⟩
  have HJ : Hid (jan ls i N = ((((i : Nat) : Int), cutL ls i (i + N - 1), [jJ ls i (N - 1)]), (jc (jJ ls i (N - 2)) (lineAt ls (i + N - 1)) : Int), true)) := by
    show _ = _
    unfold jan
    rw [if_pos hok, show ((i : Int) + (N : Int) - 1).toNat = i + N - 1 by omega, show ((i : Int)).toNat = i by omega, show ((N : Int) - 1).toNat = N - 1 by omega, show ((N : Int) - 2).toNat = N - 2 by omega]
  rw [HJ.out]
  obtain ⟨b, o, rfl, hcx, hnc, _⟩ := Ss.read h i (by omega)
  rw [← lineAt_get (by omega)] at hcx
  have hcxX := cell_later hb hcx
  have HS := Lib.hid (SrcV.below h hb)
  have HL := Lib.hid (And.intro hok (And.intro hlen (And.intro ht hn)))
  have g1 : ¬ ((N : Int) < 2) := by omega
  have g2 : ¬ ((i : Int) < 0) := by omega
  have g3 : IntKind.i64.wrap ((n : Int) - (i : Int)) = (n : Int) - (i : Int) := by rw [IntKind.wrap_i64]; omega
  have g4 : ¬ ((n : Int) - (i : Int) < (N : Int)) := by omega
  have g5 : (i : Int) < (n : Int) := by omega
  have g6 : ¬ ((n : Int) ≤ (i : Int)) := by omega
  have h1N : 1 < N := by omega
  clear hX hb hr h hok h2 h0 h3 hlb ht hlen hn hcx
  go_enter Try.func20, Try.ntmps20
  go_upto_region 3 with fail
  rw [← H.out.1]
  go_wp2
  clear hcxX g1 g2 g3 g4 g5 g6
  go_loop [9, 10, 11] (fun u v x => ∃ k : Nat, k + 1 ≤ N ∧ u = .string (jJ ls i k) ∧ v = .int .i64 (dcol ls i k) ∧ x = .int .i64 ((k + 1 : Nat) : Int)) (fun _ _ x => N - (RowKit.intOf x).toNat)
  case atStart => exact ⟨0, by omega, rfl, rfl, rfl⟩
  case round =>
    obtain ⟨k, hk, rfl, rfl, rfl⟩ := hrel
    by_cases hkM : k + 1 < N
    rotate_left
    · obtain rfl : N = k + 1 := by omega
      obtain ⟨hlen, htz, hn⟩ := HL.out.2
      have hok := HL.out.1
      unfold jOk at hok
      obtain ⟨p, rfl⟩ : ∃ p, k = p + 1 := ⟨k - 1, by omega⟩
      obtain ⟨s, hs⟩ : ∃ s, s = jJ ls i (p + 1) := ⟨_, rfl⟩
      obtain ⟨T, hT⟩ : ∃ T, T = dcol ls i (p + 1) := ⟨_, rfl⟩
      have HT : Hid (((((i : Nat) : Int), cutL ls i (i + (p + 1)), [jJ ls i (p + 1)]), (jc (jJ ls i p) (lineAt ls (i + (p + 1))) : Int), true) = ((((i : Nat) : Int), cutL ls i (i + (p + 1)), [s]), (T : Int), true)) := by
        show _ = _
        rw [hT, hs, show dcol ls i (p + 1) = jc (jJ ls i p) (lineAt ls (i + (p + 1))) from by show jc _ (lineAt ls (i + 1 + p)) = _; rw [show i + 1 + p = i + (p + 1) by omega]]
      rw [← hs, ← hT]
      obtain ⟨Y, hY⟩ : ∃ Y, Y = X.alloc (.cells #[.string s] 9) := ⟨_, rfl⟩
      have hbY : Below X.heap.size X Y := by rw [hY]; exact one_below _ _
      have hlit : Ss Y (some ⟨X.heap.size, 0, none⟩) 1 1 [s] := by
        rw [hY]
        exact SrcV.lit X #[.string s] ES 1 rfl (by simp [Value.oneCell']) (by simp [maxLen])
      have hrep := over_any (some ⟨b, o, none⟩) n c' ls i (i + (p + 1)) (some ⟨X.heap.size, 0, none⟩) 1 1 [s] Y (SrcV.below HS.out hbY) hlit (by omega) (by omega) hn
      have HY := Lib.hid (And.intro hY hbY)
      have e1 : IntKind.i64.wrap ((i : Int) + ((p : Int) + 1 + 1)) = (i : Int) + ((p : Int) + 1 + 1) := by rw [IntKind.wrap_i64]; omega
      have e2 : IntKind.i64.wrap ((i : Int) + ((p : Int) + 1 + 1) - 1) = ((i + (p + 1) : Nat) : Int) := by rw [IntKind.wrap_i64]; omega
      clear hlen htz hn hok hs hT hY hbY hlit
      go_wp2_with fail
      rw [show X.alloc (.cells #[.string s] 9) = Y from HY.out.1.symm]
      refine hrep.mono ?_
      rintro e w4 ⟨⟨f, ⟨oa, on, oc⟩, na, nn, nc⟩, rfl, hcw, hb4⟩
      simp only [cv, sv]
      have hb5 := below_on HY.out.2 hb4
      have hr5 := H.out.2.2.below hb5 H.out.2.2.lt
      obtain ⟨V, hV⟩ : ∃ V, V = w4.alloc (.cells #[.int .i64 f, .slice oa on oc, .slice na nn nc] TC) := ⟨_, rfl⟩
      have hbV : Below w4.heap.size w4 V := by rw [hV]; exact one_below _ _
      have hcV : ChAt V w4.heap.size (f, (oa, on, oc), (na, nn, nc)) := by rw [hV]; exact ChAt.new w4 (f, (oa, on, oc), (na, nn, nc))
      have hrV := hr5.below hbV hr5.lt
      have hcwV := hcw.below hbV
      have d0 := hcV.c0
      have d1 : V.cell? ⟨w4.heap.size, 1, none⟩ = some (.slice oa on oc) := hcV.c1
      have d2 : V.cell? ⟨w4.heap.size, 2, none⟩ = some (.slice na nn nc) := hcV.c2
      have m0 := hrV.c0
      have m1 : V.cell? ⟨w.heap.size, 1, none⟩ = some (.slice none 0 0) := hrV.c1
      have m2 : V.cell? ⟨w.heap.size, 2, none⟩ = some (.slice none 0 0) := hrV.c2
      have z := hrV.z
      have HV := Lib.hid (show V = w4.alloc (.cells #[.int .i64 f, .slice oa on oc, .slice na nn nc] 31) from hV)
      have HE : Hid (ChAt (putC V w.heap.size (f, (oa, on, oc), (na, nn, nc))) w.heap.size (f, (oa, on, oc), (na, nn, nc)) ∧ CW (putC V w.heap.size (f, (oa, on, oc), (na, nn, nc))) (f, (oa, on, oc), (na, nn, nc)) ((i : Int), cutL ls i (i + (p + 1)), [s]) ∧ Below w.heap.size w (putC V w.heap.size (f, (oa, on, oc), (na, nn, nc)))) :=
        ⟨hrV.set _, CW.putC hcwV hrV, putC_below (below_on H.out.2.1 (below_on hb5 hbV)) (Nat.le_refl _) _⟩
      clear hrep hcw hb4 hb5 hr5 hV hbV hcV hrV hcwV
      go_upto_region 18 with fail
      rw [← HV.out]
      go_wp2
      rw [HT.out]
      exact ret_cib (g := w.heap.size) rfl rfl rfl rfl rfl HE.out.1 ⟨_, rfl, HE.out.2.1, HE.out.2.2⟩
    obtain ⟨hlen, htz, hn⟩ := HL.out.2
    have hok := HL.out.1
    unfold jOk at hok
    have hi : i + 1 + k < ls.length := by omega
    obtain ⟨b', o', he, hcx, _⟩ := Ss.read HS.out (i + 1 + k) hi
    simp only [Option.some.injEq, Addr.mk.injEq, and_true] at he
    obtain ⟨rfl, rfl⟩ := he
    rw [← lineAt_get hi] at hcx
    have hsz : (lineAt ls (i + 1 + k)).size ≤ 1000000 := by
      have := tz_mem ls _ (List.getElem_mem hi)
      rw [lineAt_get hi]
      omega
    have hjz := jJ_size (ls := ls) (i := i) (k := k) (by omega)
    have hjn : jJ ls i (k + 1) = jstep (jJ ls i k) (lineAt ls (i + 1 + k)) := rfl
    have hjc : dcol ls i (k + 1) = jc (jJ ls i k) (lineAt ls (i + 1 + k)) := rfl
    have g1 : (i : Int) + ((k : Int) + 1) < (n : Int) := by omega
    have g2 : IntKind.i64.wrap ((i : Int) + ((k : Int) + 1)) = ((i + 1 + k : Nat) : Int) := by rw [IntKind.wrap_i64]; omega
    have g3 : ((i + 1 + k : Nat) : Int) < (n : Int) := by omega
    have g4 : (k : Int) + 1 < (N : Int) := by omega
    have g5 : IntKind.i64.wrap ((k : Int) + 1 + 1) = ((k + 1 + 1 : Nat) : Int) := by rw [IntKind.wrap_i64]; omega
    obtain ⟨j, hj⟩ : ∃ j, j = i + 1 + k := ⟨_, rfl⟩
    rw [← hj] at hcx hsz hjn hjc g2 g3
    clear hlen hn hok hi hj
    obtain ⟨t, ht⟩ : ∃ t, t = lineAt ls j := ⟨_, rfl⟩
    rw [← ht] at hcx hsz hjn hjc
    obtain ⟨s, hs⟩ : ∃ s, s = jJ ls i k := ⟨_, rfl⟩
    rw [← hs] at hjz hjn hjc
    rw [← hs]
    have HJN := Lib.hid (And.intro hjn hjc)
    clear hjn hjc ht hs
    go_wp2
    clear g1 g2 g3 hcx
    go_loop [12] (fun u => ∃ q : Nat, q ≤ bn t ∧ u = .string (t.extract q t.size)) (fun u => szOf u)
    case atStart => exact ⟨0, Nat.zero_le _, by rw [So.ext_all]⟩
    case round =>
      obtain ⟨q, hq, rfl⟩ := hrel
      have hbt := bn_le t
      have hyz : (t.extract q t.size).size = t.size - q := by rw [ByteArray.size_extract]; omega
      by_cases hqt : q < t.size
      · have hf := ext_first hqt (by omega)
        have hst := ext_step t q hqt
        have hof := fun W => of5_bl ((t.extract q t.size)[0]'(by omega)) W
        rw [hf] at hof
        have hne : (t.extract q t.size).toList.isEmpty = false := not_empty (by omega)
        have HY : Hid ((t.extract q t.size)[0]'(by omega) = t[q]) := hf
        cases hb : bl (t[q]'hqt) with
        | true =>
          have hlt : q < bn t := by
            rcases Nat.lt_or_ge q (bn t) with h | h
            · exact h
            · have h3 := bn_at (show q = bn t by omega) hqt
              rw [hb] at h3
              cases h3
          rw [hb] at hof
          simp only [if_true] at hof
          rw [← hf] at hof
          have HST := Lib.hid (And.intro hst (And.intro hlt (And.intro hyz hqt)))
          obtain ⟨y, hy⟩ : ∃ y, y = t.extract q t.size := ⟨_, rfl⟩
          have hy0 : 0 < y.size := by rw [hy]; omega
          replace hof : ∀ W, Calls Try.prog 27 #[.int .u8 ((y[0]'hy0).toNat : Int), .bool true] W fun e w' => e = .returned (.int .i64 0) ∧ W = w' := by subst hy; exact hof
          rw [← hy] at hne HST
          rw [← hy]
          have hy1 : (1 : Int) ≤ (y.size : Int) := by omega
          have hy2 : y.size ≤ 1000000 := by rw [hy, hyz]; omega
          clear hf hst hb HY hlt hyz hqt hq
          have HYY := Lib.hid hy
          clear hy
          go_wp2_with fail
          refine (hof _).mono ?_
          rintro e w' ⟨rfl, rfl⟩
          go_wp2
          go_round
          case rel => exact ⟨q + 1, HST.out.2.1, by rw [HST.out.1]⟩
          case measure =>
            show (y.extract 1 y.size).size < y.size
            rw [ByteArray.size_extract]
            omega
        | false =>
          have heq : q = bn t := by
            rcases Nat.lt_or_ge q (bn t) with h | h
            · have h3 := bn_lt h hqt
              rw [hb] at h3
              cases h3
            · omega
          rw [hb] at hof
          simp only [Bool.false_eq_true, if_false] at hof
          rw [← hf] at hof
          subst heq
          have hrd : t.extract (bn t) t.size = strip t := rfl
          have hstz := strip_size t
          obtain ⟨r, hr⟩ : ∃ r, r = strip t := ⟨_, rfl⟩
          rw [← hr] at hstz
          rw [hrd, ← hr] at hyz
          have hy0 : 0 < r.size := by omega
          replace hof : ∀ W, Calls Try.prog 27 #[.int .u8 ((r[0]'hy0).toNat : Int), .bool true] W fun e w' => e = .returned (.int .i64 1) ∧ W = w' := by subst hr; exact hof
          rw [hrd, ← hr] at hne
          rw [hrd, ← hr]
          have hrz : r.size ≤ 1000000 := by omega
          have hJ := HJN.out
          unfold jstep jc at hJ
          rw [← hr] at hJ
          rw [if_neg (show ¬ r.size = 0 by omega)] at hJ
          have HJN := Lib.hid hJ
          have h41 := byte41 (r[0]'hy0)
          clear hf hst hb HY hyz hqt hq hrd hstz hJ hbt
          have hszA : (s ++ ⟨#[32]⟩).size = s.size + 1 := by rw [ByteArray.size_append]; rfl
          by_cases hs0 : s.size = 0
          · have ha : apt s r = false := dif_neg (by omega)
            have HA : Hid ((if apt s r = true then (s ++ ⟨#[32]⟩) ++ r else s ++ r) = s ++ r) := by show _ = _; rw [ha]; rfl
            have hse : s.toList.isEmpty = true := by rw [is_empty hs0, ByteArray.toList_eq]; rfl
            clear ha h41 hs0
            have HR := Lib.hid hr
            clear hr
            go_wp2_with (refine (hof _).mono ?_; rintro e w' ⟨rfl, rfl⟩; clear hof)
            go_round
            case rel => exact ⟨k + 1, by omega, by rw [HJN.out.1, HA.out], by rw [HJN.out.2]; try rfl, by go_num⟩
            case measure => simp [RowKit.intOf]; omega
          · have hse : s.toList.isEmpty = false := not_empty hs0
            have ha : apt s r = (!bl (s[s.size - 1]'(by omega)) && decide ((r[0]'hy0) ≠ 41)) := dif_pos ⟨by omega, hy0⟩
            have HR := Lib.hid hr
            clear hr
            obtain ⟨q, hq⟩ : ∃ q, q = s.size - 1 := ⟨_, rfl⟩
            have hqs : q < s.size := by omega
            have hx : s[s.size - 1]'(by omega) = s[q]'hqs := by congr 1; omega
            rw [hx] at ha
            have f1 : IntKind.i64.wrap ((s.size : Int) - 1) = (q : Int) := by rw [IntKind.wrap_i64]; omega
            have f2 : (q : Int) < (s.size : Int) := by omega
            have ho := fun W => of5_bl (s[q]'hqs) W
            clear hx hq
            cases hb : bl (s[q]'hqs) with
            | true =>
              rw [hb] at ha ho
              simp only [if_true] at ho
              simp only [Bool.not_true, Bool.false_and] at ha
              have HA : Hid ((if apt s r = true then (s ++ ⟨#[32]⟩) ++ r else s ++ r) = s ++ r) := by show _ = _; rw [ha]; rfl
              clear ha hb h41
              go_wp2_with (first | (refine (hof _).mono ?_; rintro e w' ⟨rfl, rfl⟩; clear hof) | (refine (ho _).mono ?_; rintro e w' ⟨rfl, rfl⟩; clear ho))
              go_round
              case rel => exact ⟨k + 1, by omega, by rw [HJN.out.1, HA.out], by rw [HJN.out.2]; try rfl, by go_num⟩
              case measure => simp [RowKit.intOf]; omega
            | false =>
              rw [hb] at ha ho
              simp only [Bool.false_eq_true, if_false] at ho
              simp only [Bool.not_false, Bool.true_and] at ha
              by_cases hp : r[0]'hy0 = 41
              · rw [decide_eq_true hp] at h41
                rw [decide_eq_false (fun h => h hp)] at ha
                have HA : Hid ((if apt s r = true then (s ++ ⟨#[32]⟩) ++ r else s ++ r) = s ++ r) := by show _ = _; rw [ha]; rfl
                clear ha hb hp
                go_wp2_with (first | (refine (hof _).mono ?_; rintro e w' ⟨rfl, rfl⟩; clear hof) | (refine (ho _).mono ?_; rintro e w' ⟨rfl, rfl⟩; clear ho))
                go_round
                case rel => exact ⟨k + 1, by omega, by rw [HJN.out.1, HA.out], by rw [HJN.out.2]; try rfl, by go_num⟩
                case measure => simp [RowKit.intOf]; omega
              · rw [decide_eq_false hp] at h41
                rw [decide_eq_true hp] at ha
                have HA : Hid ((if apt s r = true then (s ++ ⟨#[32]⟩) ++ r else s ++ r) = (s ++ ⟨#[32]⟩) ++ r) := by show _ = _; rw [ha]; rfl
                clear ha hb hp
                go_wp2_with (first | (refine (hof _).mono ?_; rintro e w' ⟨rfl, rfl⟩; clear hof) | (refine (ho _).mono ?_; rintro e w' ⟨rfl, rfl⟩; clear ho))
                go_round
                case rel => exact ⟨k + 1, by omega, by rw [HJN.out.1, HA.out], by rw [HJN.out.2]; try rfl, by go_num⟩
                case measure => simp [RowKit.intOf]; omega
      · have heq : q = bn t := by omega
        subst heq
        have hrd : t.extract (bn t) t.size = strip t := rfl
        have hr0 : (strip t).size = 0 := by rw [strip_size]; omega
        have hr := is_empty hr0
        rw [hrd, hr]
        have hJ := HJN.out
        unfold jstep jc at hJ
        rw [if_pos hr0, apt_empty hr0] at hJ
        simp only [Bool.false_eq_true, if_false] at hJ
        rw [hr, app_empty] at hJ
        have HJN := Lib.hid hJ
        clear hyz hqt hq hrd hr0 hr hJ hbt
        have happ := app_empty s
        obtain ⟨T, hT⟩ : ∃ T, T = s.size - 1 := ⟨_, rfl⟩
        rw [← hT] at HJN
        by_cases hs0 : s.size = 0
        · have f1 : IntKind.i64.wrap ((s.size : Int) - 1) = -1 := by rw [IntKind.wrap_i64]; omega
          obtain rfl : T = 0 := by omega
          clear hs0 hT
          go_wp2
          go_round
          case rel => exact ⟨k + 1, by omega, by rw [HJN.out.1], by rw [HJN.out.2]; try rfl, by go_num⟩
          case measure => simp [RowKit.intOf]; omega
        · have f1 : IntKind.i64.wrap ((s.size : Int) - 1) = (T : Int) := by rw [IntKind.wrap_i64]; omega
          have f2 : ¬ ((T : Int) < 0) := by omega
          clear hs0 hT
          go_wp2
          go_round
          case rel => exact ⟨k + 1, by omega, by rw [HJN.out.1], by rw [HJN.out.2]; try rfl, by go_num⟩
          case measure => simp [RowKit.intOf]; omega
end Go.Proofs.Ytkddnknjjdenhaa.Ed
