/-
  The document's Shift.
-/
import Derived.Test.YtkddnknjjdenhaaEdh
set_option linter.unusedVariables false
set_option linter.unusedSimpArgs false
set_option maxRecDepth 100000
namespace Go.Proofs.Ytkddnknjjdenhaa.Ed
open Go Go.RowKit Go.Proofs.Ytkddnknjjdenhaa.Vk Go.Proofs.Ytkddnknjjdenhaa.Str Go.Proofs.Ytkddnknjjdenhaa.Ln Go.Proofs.Ytkddnknjjdenhaa.Cl Go.Proofs.Ytkddnknjjdenhaa.Mv
attribute [local go_sem] Oper.semAt_some

theorem take_app {f : ByteArray → ByteArray} {C : List ByteArray} {k : Nat} {Y : ByteArray} (h : k < C.length) (e : f (lineAt C k) = Y) : ((C.take k).map f).map Value.string ++ [.string Y] = ((C.take (k + 1)).map f).map Value.string := by
  rw [List.take_succ_eq_append_getElem h, List.map_append, List.map_append, ← lineAt_get h]
  simp [e]
/-- What stands between the rounds. -/
structure Tq (X wr : World) (f : ByteArray → ByteArray) (C : List ByteArray) (k : Nat) (a : Option Addr) (cc : Nat) : Prop where
  row : wr.ownsRow X.heap.size ES 1 (.slice a k cc) k (((C.take k).map f).map Value.string)
  below : Below X.heap.size X wr
theorem Tq.on {X wr w' : World} {f : ByteArray → ByteArray} {C : List ByteArray} {k cc : Nat} {a : Option Addr} (h : Tq X wr f C k a cc) (hb : Below wr.heap.size wr w') : Tq X w' f C k a cc :=
  ⟨ownsRow_fr h.row (Fr.ofBelow hb (fun _ => False)) (fun _ _ h => h), below_on h.below hb⟩
theorem ext_zero (s : ByteArray) : s.extract 0 s.size = s := So.ext_all s

set_option maxHeartbeats 8000000 in
theorem shift19_any (a : Option Addr) (n c' : Nat) (ls : List ByteArray) (l t m : Int) (left : Bool) (w : World) (h : Ss w a n c' ls) (hn : n ≤ 1000000) (ht : tz ls ≤ 1000000) :
    Calls Try.prog 22 #[.slice a n c', .int .i64 l, .int .i64 t, .int .i64 m, .bool left] w fun e w' => CbOut w (shn ls l t m left) e w' := by
  obtain ⟨i0, hi0, hz0, hz1, hz2⟩ := info_parts infoS
  have hlen := h.length
  obtain ⟨X, hX⟩ : ∃ X, X = w.alloc (.cells #[.int .i64 0, .slice none 0 0, .slice none 0 0] TC) := ⟨_, rfl⟩
  obtain ⟨hb, hr⟩ := zero_pair w
  rw [← hX] at hb hr
  have H := Lib.hid (And.intro (show X = w.alloc (.cells #[.int .i64 0, .slice none 0 0, .slice none 0 0] 31) from hX) (And.intro hb hr))
  by_cases hok : shOk ls l t m
  rotate_left
  · rw [show shn ls l t m left = ((0, [], []), false) from if_neg hok]
    have m0 := hr.c0
    have m1 : X.cell? ⟨w.heap.size, 1, none⟩ = some (.slice none 0 0) := hr.c1
    have m2 : X.cell? ⟨w.heap.size, 2, none⟩ = some (.slice none 0 0) := hr.c2
    have z := hr.z
    have HE : Hid (ChAt (putC X w.heap.size (0, (none, 0, 0), (none, 0, 0))) w.heap.size (0, (none, 0, 0), (none, 0, 0)) ∧ Below w.heap.size w (putC X w.heap.size (0, (none, 0, 0), (none, 0, 0)))) := ⟨hr.set _, putC_below hb (Nat.le_refl _) _⟩
    have hcase : m < 1 ∨ (1 ≤ m ∧ l < 0) ∨ (1 ≤ m ∧ 0 ≤ l ∧ (n : Int) ≤ t) ∨ (1 ≤ m ∧ 0 ≤ l ∧ t < (n : Int) ∧ t < l) := by unfold shOk at hok; omega
    clear hX hb h hok
    have HR := Lib.hid hr
    clear hr
    rcases hcase with c1 | ⟨c1, c2⟩ | ⟨c1, c2, c3⟩ | ⟨c1, c2, c3, c4⟩
    · clear m0 m1 m2 z HE
      go_enter Try.func22, Try.ntmps22
      go_upto_region 2 with fail
      rw [← H.out.1]
      have hno := none_any X
      go_wp2_with fail
      refine hno.mono ?_
      rintro e w3 ⟨⟨f, ⟨oa, on, oc⟩, na, nn, nc⟩, rfl, hcw, hb3⟩
      have hq3 := HR.out.below hb3 HR.out.lt
      have m0 := hq3.c0
      have m1 : w3.cell? ⟨w.heap.size, 1, none⟩ = some (.slice none 0 0) := hq3.c1
      have m2 : w3.cell? ⟨w.heap.size, 2, none⟩ = some (.slice none 0 0) := hq3.c2
      have z := hq3.z
      have HE : Hid (ChAt (putC w3 w.heap.size (f, (oa, on, oc), (na, nn, nc))) w.heap.size (f, (oa, on, oc), (na, nn, nc)) ∧ CW (putC w3 w.heap.size (f, (oa, on, oc), (na, nn, nc))) (f, (oa, on, oc), (na, nn, nc)) (0, [], []) ∧ Below w.heap.size w (putC w3 w.heap.size (f, (oa, on, oc), (na, nn, nc)))) := ⟨hq3.set _, CW.putC hcw hq3, putC_below (below_on H.out.2.1 hb3) (Nat.le_refl _) _⟩
      simp only [cv, sv]
      clear hb3 hq3 hcw hno
      go_wp2
      exact ret_cb (g := w.heap.size) rfl rfl rfl rfl HE.out.1 ⟨_, rfl, HE.out.2.1, HE.out.2.2⟩
    · clear m0 m1 m2 z HE
      go_enter Try.func22, Try.ntmps22
      go_upto_region 2 with fail
      rw [← H.out.1]
      have hno := none_any X
      go_wp2_with fail
      refine hno.mono ?_
      rintro e w3 ⟨⟨f, ⟨oa, on, oc⟩, na, nn, nc⟩, rfl, hcw, hb3⟩
      have hq3 := HR.out.below hb3 HR.out.lt
      have m0 := hq3.c0
      have m1 : w3.cell? ⟨w.heap.size, 1, none⟩ = some (.slice none 0 0) := hq3.c1
      have m2 : w3.cell? ⟨w.heap.size, 2, none⟩ = some (.slice none 0 0) := hq3.c2
      have z := hq3.z
      have HE : Hid (ChAt (putC w3 w.heap.size (f, (oa, on, oc), (na, nn, nc))) w.heap.size (f, (oa, on, oc), (na, nn, nc)) ∧ CW (putC w3 w.heap.size (f, (oa, on, oc), (na, nn, nc))) (f, (oa, on, oc), (na, nn, nc)) (0, [], []) ∧ Below w.heap.size w (putC w3 w.heap.size (f, (oa, on, oc), (na, nn, nc)))) := ⟨hq3.set _, CW.putC hcw hq3, putC_below (below_on H.out.2.1 hb3) (Nat.le_refl _) _⟩
      simp only [cv, sv]
      clear hb3 hq3 hcw hno
      go_wp2
      exact ret_cb (g := w.heap.size) rfl rfl rfl rfl HE.out.1 ⟨_, rfl, HE.out.2.1, HE.out.2.2⟩
    · clear m0 m1 m2 z HE
      go_enter Try.func22, Try.ntmps22
      go_upto_region 2 with fail
      rw [← H.out.1]
      have hno := none_any X
      go_wp2_with fail
      refine hno.mono ?_
      rintro e w3 ⟨⟨f, ⟨oa, on, oc⟩, na, nn, nc⟩, rfl, hcw, hb3⟩
      have hq3 := HR.out.below hb3 HR.out.lt
      have m0 := hq3.c0
      have m1 : w3.cell? ⟨w.heap.size, 1, none⟩ = some (.slice none 0 0) := hq3.c1
      have m2 : w3.cell? ⟨w.heap.size, 2, none⟩ = some (.slice none 0 0) := hq3.c2
      have z := hq3.z
      have HE : Hid (ChAt (putC w3 w.heap.size (f, (oa, on, oc), (na, nn, nc))) w.heap.size (f, (oa, on, oc), (na, nn, nc)) ∧ CW (putC w3 w.heap.size (f, (oa, on, oc), (na, nn, nc))) (f, (oa, on, oc), (na, nn, nc)) (0, [], []) ∧ Below w.heap.size w (putC w3 w.heap.size (f, (oa, on, oc), (na, nn, nc)))) := ⟨hq3.set _, CW.putC hcw hq3, putC_below (below_on H.out.2.1 hb3) (Nat.le_refl _) _⟩
      simp only [cv, sv]
      clear hb3 hq3 hcw hno
      go_wp2
      exact ret_cb (g := w.heap.size) rfl rfl rfl rfl HE.out.1 ⟨_, rfl, HE.out.2.1, HE.out.2.2⟩
    · clear m0 m1 m2 z HE
      go_enter Try.func22, Try.ntmps22
      go_upto_region 2 with fail
      rw [← H.out.1]
      have hno := none_any X
      go_wp2_with fail
      refine hno.mono ?_
      rintro e w3 ⟨⟨f, ⟨oa, on, oc⟩, na, nn, nc⟩, rfl, hcw, hb3⟩
      have hq3 := HR.out.below hb3 HR.out.lt
      have m0 := hq3.c0
      have m1 : w3.cell? ⟨w.heap.size, 1, none⟩ = some (.slice none 0 0) := hq3.c1
      have m2 : w3.cell? ⟨w.heap.size, 2, none⟩ = some (.slice none 0 0) := hq3.c2
      have z := hq3.z
      have HE : Hid (ChAt (putC w3 w.heap.size (f, (oa, on, oc), (na, nn, nc))) w.heap.size (f, (oa, on, oc), (na, nn, nc)) ∧ CW (putC w3 w.heap.size (f, (oa, on, oc), (na, nn, nc))) (f, (oa, on, oc), (na, nn, nc)) (0, [], []) ∧ Below w.heap.size w (putC w3 w.heap.size (f, (oa, on, oc), (na, nn, nc)))) := ⟨hq3.set _, CW.putC hcw hq3, putC_below (below_on H.out.2.1 hb3) (Nat.le_refl _) _⟩
      simp only [cv, sv]
      clear hb3 hq3 hcw hno
      go_wp2
      exact ret_cb (g := w.heap.size) rfl rfl rfl rfl HE.out.1 ⟨_, rfl, HE.out.2.1, HE.out.2.2⟩
  obtain ⟨h2, h0, h3, h4⟩ := id hok
  obtain ⟨i, rfl⟩ : ∃ i : Nat, l = i := ⟨l.toNat, by omega⟩
  obtain ⟨j, rfl⟩ : ∃ j : Nat, t = j := ⟨t.toNat, by omega⟩
  obtain ⟨N, rfl⟩ : ∃ N : Nat, m = N := ⟨m.toNat, by omega⟩
  have hij : i ≤ j := by omega
  have hjn : j < n := by omega
  obtain ⟨C, hC⟩ : ∃ C, C = cutL ls i j := ⟨_, rfl⟩
  have hCl : C.length = j + 1 - i := by rw [hC, cutL_length hij (by omega)]
  have hCz : tz C ≤ 1000000 := by have := cutL_tz ls i j; rw [hC]; omega
  obtain ⟨K, hK⟩ : ∃ K, K = min N 1024 := ⟨_, rfl⟩
  obtain ⟨W, hW⟩ : ∃ W, W = 4 * K := ⟨_, rfl⟩
  have HJ : Hid (shn ls i j N left = ((((i : Nat) : Int), cutL ls i j, C.map (sh1 left W)), true)) := by
    show _ = _
    unfold shn
    rw [if_pos hok, hW, hK, hC]
    rfl
  rw [HJ.out]
  have hW5 : W ≤ 4096 := by omega
  obtain ⟨b, o, rfl, hx0, hx1, hx2⟩ := Ss.read h 0 (by omega)
  clear hx0 hx1 hx2
  obtain ⟨hc1, hc2⟩ := cap_src h (by omega)
  obtain ⟨M, hM⟩ : ∃ M, M = j + 1 - i := ⟨_, rfl⟩
  have HS := Lib.hid (SrcV.below h hb)
  have HL := Lib.hid (And.intro hij (And.intro hjn (And.intro hn (And.intro hlen (And.intro hC hK)))))
  rw [← hM] at hCl
  by_cases hnk : 1024 < N
  · have hK4 : (1024 : Int) = (K : Int) := by omega
    have hnk' : (1024 : Int) < (N : Int) := by omega
    have hmm : min (N : Int) 1024 = 1024 := by omega
    have g1 : ¬ ((N : Int) < 1) := by omega
    have g2 : ¬ ((i : Int) < 0) := by omega
    have g3 : ¬ ((j : Int) < (i : Int)) := by omega
    have g4 : ¬ ((n : Int) ≤ (j : Int)) := by omega
    have e5 : IntKind.i64.wrap (4 * (K : Int)) = (W : Int) := by rw [IntKind.wrap_i64]; omega
    have e6 : (0 : Int) < (W : Int) := by omega
    have HK4 := Lib.hid hK4
    have HM := Lib.hid hM
    clear hX hb hr h hok h2 h0 h3 h4 hlen hC hK hK4 hW hij hjn hn hM hc1 hc2
    go_enter Try.func22, Try.ntmps22
    go_upto_region 4 with fail
    rw [← H.out.1]
    rw [HK4.out]
    clear g1 g2 g3 g4
    go_wp2
    go_loopw [12, 13] (fun u v wr => ∃ (k p cc : Nat) (a : Option Addr), u = .slice a k cc ∧ v = .int .i64 p ∧ p = i + k ∧ k ≤ M ∧ Hid (Tq X wr (sh1 left W) C k a cc)) (fun _ v _ => j + 1 - (RowKit.intOf v).toNat)
    case atStart => exact ⟨0, i, 0, none, rfl, rfl, rfl, Nat.zero_le _, World.ownsRow_nil X X.heap.size ES 1, Below.refl _ _⟩
    case round =>
      obtain ⟨k, p, cc, a, rfl, rfl, hp, hk, HQ⟩ := hrel
      by_cases hkM : k < M
      rotate_left
      · obtain rfl : k = M := by omega
        have hs := SrcV.ofOwn HQ.out.row (one_cells _)
        rw [List.take_of_length_le (by omega)] at hs
        have hrep := over_any (some ⟨b, o, none⟩) n c' ls i j a k cc (C.map (sh1 left W)) wr (SrcV.below HS.out HQ.out.below) hs HL.out.1 HL.out.2.1 HL.out.2.2.1
        have HB := Lib.hid HQ.out.below
        have hpj : ¬ (p : Int) ≤ (j : Int) := by have := HM.out; have := HL.out.1; omega
        clear hs HQ hp
        go_wp2_with fail
        refine hrep.mono ?_
        rintro e w5 ⟨⟨f, ⟨oa, on, oc⟩, na, nn, nc⟩, rfl, hcw, hb4⟩
        simp only [cv, sv]
        have hb5 := below_on HB.out hb4
        have hr5 := H.out.2.2.below hb5 H.out.2.2.lt
        have m0 := hr5.c0
        have m1 : w5.cell? ⟨w.heap.size, 1, none⟩ = some (.slice none 0 0) := hr5.c1
        have m2 : w5.cell? ⟨w.heap.size, 2, none⟩ = some (.slice none 0 0) := hr5.c2
        have z := hr5.z
        have HE : Hid (ChAt (putC w5 w.heap.size (f, (oa, on, oc), (na, nn, nc))) w.heap.size (f, (oa, on, oc), (na, nn, nc)) ∧ CW (putC w5 w.heap.size (f, (oa, on, oc), (na, nn, nc))) (f, (oa, on, oc), (na, nn, nc)) ((i : Int), cutL ls i j, C.map (sh1 left W)) ∧ Below w.heap.size w (putC w5 w.heap.size (f, (oa, on, oc), (na, nn, nc)))) :=
          ⟨hr5.set _, CW.putC hcw hr5, putC_below (below_on H.out.2.1 hb5) (Nat.le_refl _) _⟩
        clear hrep hcw hb4 hb5 hr5
        go_wp2
        exact ret_cb (g := w.heap.size) rfl rfl rfl rfl HE.out.1 ⟨_, rfl, HE.out.2.1, HE.out.2.2⟩
      have hlen := HL.out.2.2.2.1
      have hjn := HL.out.2.1
      have hM := HM.out
      have hn := HL.out.2.2.1
      have hpl : p < ls.length := by omega
      obtain ⟨b', o', he, hcx, _⟩ := Ss.read (SrcV.below HS.out HQ.out.below) p hpl
      simp only [Option.some.injEq, Addr.mk.injEq, and_true] at he
      obtain ⟨rfl, rfl⟩ := he
      rw [← lineAt_get hpl] at hcx
      have hCk : lineAt C k = lineAt ls p := by rw [HL.out.2.2.2.2.1, hp]; exact cutL_at (by omega) (by omega)
      have hsz : (lineAt C k).size ≤ 1000000 := by
        have := tz_mem C _ (List.getElem_mem (show k < C.length by omega))
        rw [lineAt_get (by omega)]
        omega
      rw [← hCk] at hcx
      have HC := Lib.hid (show k < C.length by omega)
      have hpj : (p : Int) ≤ (j : Int) := by omega
      have hpn : (p : Int) < (n : Int) := by omega
      have hw : IntKind.i64.wrap ((p : Int) + 1) = ((p + 1 : Nat) : Int) := by rw [IntKind.wrap_i64]; omega
      have hk6 : k ≤ 1000000 := by omega
      have hpj' : p ≤ j := by omega
      have HP := Lib.hid hp
      clear hlen hjn hM hn hpl hCk hp
      obtain ⟨t, ht⟩ : ∃ t, t = lineAt C k := ⟨_, rfl⟩
      rw [← ht] at hcx hsz
      have HT := Lib.hid ht
      clear ht
      have hbt := bn_le t
      cases left with
      | false =>
        by_cases h0 : t.size = 0
        · have HY : Hid (sh1 false W (lineAt C k) = ⟨#[]⟩) := by
            show _ = _
            rw [← HT.out, sh_none h0]
            exact is_empty h0
          have hse := is_empty h0
          subst hse
          clear h0 hbt
          go_wp2
          clear hcx
          go_loop [14, 15] (fun u v => u = .string ⟨#[]⟩ ∧ v = .int .i64 0) (fun u v => 0)
          case atStart => exact ⟨rfl, rfl⟩
          case round =>
            obtain ⟨rfl, rfl⟩ := hrel
            have hrow := Lib.hid (ownsRow_fr HQ.out.row ((Fr.refl (fun _ => False) wr).alloc (.cells #[.string ⟨#[]⟩] ES)) (by simp))
            have hsrc := Lib.hid (SrcV.lit wr #[.string ⟨#[]⟩] ES 1 rfl (by simp [Value.oneCell']) (by simp [maxLen]))
            have hlw : X.heap.size ≤ (wr.alloc (.cells #[.string ⟨#[]⟩] ES)).heap.size := by have := HQ.out.below.size; simp; omega
            go_wp2_with (at_builtin; go_must (refine append_srcv _ rfl _ _ 22 rfl X.heap.size ES i0 (.string ⟨#[]⟩) 1 16 underS hi0 hz0 hz1 hz2 rfl (by decide) _ k _ rfl hrow.out _ 1 [.string ⟨#[]⟩] rfl hsrc.out (by simp only [maxLen]; omega) (by omega) hlw ?_); intro b' c3 w3 hown1 hg hnr; have HO := Lib.hid hown1; have HG := Lib.hid hg; clear hown1 hg hnr)
            go_roundw
            case rel =>
              refine ⟨k + 1, p + 1, c3, b', rfl, by go_num, by have := HP.out; omega, by omega, ?_, ?_⟩
              · rw [← take_app HC.out HY.out]; exact HO.out
              · exact (HQ.out.below.alloc HQ.out.below.size _).trans ((Below.refl X.heap.size _).grown HG.out hlw (fun g hgg => (hrow.out.lt g hgg).1))
            case measure => simp [RowKit.intOf]; omega
        · have hse : t.toList.isEmpty = false := not_empty h0
          have HY : Hid (sh1 false W (lineAt C k) = rep W 32 ++ t) := by
            show _ = _
            rw [← HT.out, sh_right h0]
          have hsm := same_bytes 32 W wr (by omega)
          have hrs := rep_size W 32
          clear h0 hbt
          go_wp2_with (first | (refine hsm.mono ?_; rintro e w5 ⟨rfl, hb5⟩; clear hsm hcx; have HQ := Lib.hid (HQ.out.on hb5); clear hb5) | fail)
          clear hse
          go_loop [14, 15] (fun u v => u = .string (rep W 32 ++ t) ∧ v = .int .i64 0) (fun u v => 0)
          case atStart => exact ⟨rfl, rfl⟩
          case round =>
            obtain ⟨rfl, rfl⟩ := hrel
            have hrow := Lib.hid (ownsRow_fr HQ.out.row ((Fr.refl (fun _ => False) w5).alloc (.cells #[.string (rep W 32 ++ t)] ES)) (by simp))
            have hsrc := Lib.hid (SrcV.lit w5 #[.string (rep W 32 ++ t)] ES 1 rfl (by simp [Value.oneCell']) (by simp [maxLen]))
            have hlw : X.heap.size ≤ (w5.alloc (.cells #[.string (rep W 32 ++ t)] ES)).heap.size := by have := HQ.out.below.size; simp; omega
            go_wp2_with (at_builtin; go_must (refine append_srcv _ rfl _ _ 22 rfl X.heap.size ES i0 (.string ⟨#[]⟩) 1 16 underS hi0 hz0 hz1 hz2 rfl (by decide) _ k _ rfl hrow.out _ 1 [.string (rep W 32 ++ t)] rfl hsrc.out (by simp only [maxLen]; omega) (by omega) hlw ?_); intro b' c3 w3 hown1 hg hnr; have HO := Lib.hid hown1; have HG := Lib.hid hg; clear hown1 hg hnr)
            go_roundw
            case rel =>
              refine ⟨k + 1, p + 1, c3, b', rfl, by go_num, by have := HP.out; omega, by omega, ?_, ?_⟩
              · rw [← take_app HC.out HY.out]; exact HO.out
              · exact (HQ.out.below.alloc HQ.out.below.size _).trans ((Below.refl X.heap.size _).grown HG.out hlw (fun g hgg => (hrow.out.lt g hgg).1))
            case measure => simp [RowKit.intOf]; omega
      | true =>
        by_cases h0 : t.size = 0
        · have hse := is_empty h0
          have HY : Hid (sh1 true W (lineAt C k) = ⟨#[]⟩) := by
            show _ = _
            rw [← HT.out, sh_left]
            refine is_empty ?_
            rw [ByteArray.size_extract]
            omega
          subst hse
          clear h0 hbt
          go_wp2
          clear hcx
          go_loop [14, 15] (fun u v => u = .string ⟨#[]⟩ ∧ v = .int .i64 0) (fun u v => 0)
          case atStart => exact ⟨rfl, rfl⟩
          case round =>
            obtain ⟨rfl, rfl⟩ := hrel
            have hrow := Lib.hid (ownsRow_fr HQ.out.row ((Fr.refl (fun _ => False) wr).alloc (.cells #[.string ⟨#[]⟩] ES)) (by simp))
            have hsrc := Lib.hid (SrcV.lit wr #[.string ⟨#[]⟩] ES 1 rfl (by simp [Value.oneCell']) (by simp [maxLen]))
            have hlw : X.heap.size ≤ (wr.alloc (.cells #[.string ⟨#[]⟩] ES)).heap.size := by have := HQ.out.below.size; simp; omega
            go_wp2_with (at_builtin; go_must (refine append_srcv _ rfl _ _ 22 rfl X.heap.size ES i0 (.string ⟨#[]⟩) 1 16 underS hi0 hz0 hz1 hz2 rfl (by decide) _ k _ rfl hrow.out _ 1 [.string ⟨#[]⟩] rfl hsrc.out (by simp only [maxLen]; omega) (by omega) hlw ?_); intro b' c3 w3 hown1 hg hnr; have HO := Lib.hid hown1; have HG := Lib.hid hg; clear hown1 hg hnr)
            go_roundw
            case rel =>
              refine ⟨k + 1, p + 1, c3, b', rfl, by go_num, by have := HP.out; omega, by omega, ?_, ?_⟩
              · rw [← take_app HC.out HY.out]; exact HO.out
              · exact (HQ.out.below.alloc HQ.out.below.size _).trans ((Below.refl X.heap.size _).grown HG.out hlw (fun g hgg => (hrow.out.lt g hgg).1))
            case measure => simp [RowKit.intOf]; omega
        · have hse : t.toList.isEmpty = false := not_empty h0
          clear h0
          go_wp2
          clear hcx hse
          go_loop [14, 15] (fun u v => ∃ q : Nat, q ≤ W ∧ q ≤ bn t ∧ u = .string (t.extract q t.size) ∧ v = .int .i64 q) (fun u v => szOf u)
          case atStart => exact ⟨0, Nat.zero_le _, Nat.zero_le _, by rw [ext_zero], rfl⟩
          case round =>
            obtain ⟨q, hqW, hq, rfl, rfl⟩ := hrel
            have hyz : (t.extract q t.size).size = t.size - q := by rw [ByteArray.size_extract]; omega
            by_cases hqw : q < W
            rotate_left
            · obtain rfl : q = W := by omega
              have HY : Hid (sh1 true q (lineAt C k) = t.extract q t.size) := by
                show _ = _
                rw [← HT.out, sh_left, Nat.min_eq_left hq]
              have hqw' : ¬ (q : Int) < (q : Int) := by omega
              clear hyz hqw hqW hbt
              have hrow := Lib.hid (ownsRow_fr HQ.out.row ((Fr.refl (fun _ => False) wr).alloc (.cells #[.string (t.extract q t.size)] ES)) (by simp))
              have hsrc := Lib.hid (SrcV.lit wr #[.string (t.extract q t.size)] ES 1 rfl (by simp [Value.oneCell']) (by simp [maxLen]))
              have hlw : X.heap.size ≤ (wr.alloc (.cells #[.string (t.extract q t.size)] ES)).heap.size := by have := HQ.out.below.size; simp; omega
              go_wp2_with (at_builtin; go_must (refine append_srcv _ rfl _ _ 22 rfl X.heap.size ES i0 (.string ⟨#[]⟩) 1 16 underS hi0 hz0 hz1 hz2 rfl (by decide) _ k _ rfl hrow.out _ 1 [.string (t.extract q t.size)] rfl hsrc.out (by simp only [maxLen]; omega) (by omega) hlw ?_); intro b' c3 w3 hown1 hg hnr; have HO := Lib.hid hown1; have HG := Lib.hid hg; clear hown1 hg hnr)
              go_roundw
              case rel =>
                refine ⟨k + 1, p + 1, c3, b', rfl, by go_num, by have := HP.out; omega, by omega, ?_, ?_⟩
                · rw [← take_app HC.out HY.out]; exact HO.out
                · exact (HQ.out.below.alloc HQ.out.below.size _).trans ((Below.refl X.heap.size _).grown HG.out hlw (fun g hgg => (hrow.out.lt g hgg).1))
              case measure => simp [RowKit.intOf]; omega
            have hqw' : (q : Int) < (W : Int) := by omega
            by_cases hqt : q < t.size
            · have hf := ext_first hqt (by omega)
              have hst := ext_step t q hqt
              have hof := fun W => of5_bl ((t.extract q t.size)[0]'(by omega)) W
              rw [hf] at hof
              have hne : (t.extract q t.size).toList.isEmpty = false := not_empty (by omega)
              cases hb : bl (t[q]'hqt) with
              | true =>
                have hlt : q < bn t := by
                  rcases Nat.lt_or_ge q (bn t) with h | h
                  · exact h
                  · have h3 := bn_at (show q = bn t by omega) hqt
                    rw [hb] at h3
                    cases h3
                rw [hb] at hof
                simp only [if_true] at hof
                rw [← hf] at hof
                have HST := Lib.hid (And.intro hst (And.intro hlt (And.intro hyz hqt)))
                obtain ⟨y, hy⟩ : ∃ y, y = t.extract q t.size := ⟨_, rfl⟩
                have hy0 : 0 < y.size := by rw [hy]; omega
                replace hof : ∀ W, Calls Try.prog 27 #[.int .u8 ((y[0]'hy0).toNat : Int), .bool true] W fun e w' => e = .returned (.int .i64 0) ∧ W = w' := by subst hy; exact hof
                rw [← hy] at hne HST
                rw [← hy]
                have hy1 : (1 : Int) ≤ (y.size : Int) := by omega
                have hy2 : y.size ≤ 1000000 := by rw [hy, hyz]; omega
                have hwq : IntKind.i64.wrap ((q : Int) + 1) = ((q + 1 : Nat) : Int) := by rw [IntKind.wrap_i64]; omega
                clear hf hst hb hlt hyz hqt hq
                have HYY := Lib.hid hy
                clear hy
                go_wp2_with fail
                refine (hof _).mono ?_
                rintro e w' ⟨rfl, rfl⟩
                go_wp2
                go_round
                case rel => exact ⟨q + 1, by omega, HST.out.2.1, by rw [HST.out.1], by go_num⟩
                case measure =>
                  show (y.extract 1 y.size).size < y.size
                  rw [ByteArray.size_extract]
                  omega
              | false =>
                have heq : q = bn t := by
                  rcases Nat.lt_or_ge q (bn t) with h | h
                  · have h3 := bn_lt h hqt
                    rw [hb] at h3
                    cases h3
                  · omega
                have HY : Hid (sh1 true W (lineAt C k) = t.extract q t.size) := by
                  show _ = _
                  rw [← HT.out, sh_left, Nat.min_eq_right (by omega), heq]
                rw [hb] at hof
                simp only [Bool.false_eq_true, if_false] at hof
                rw [← hf] at hof
                obtain ⟨y, hy⟩ : ∃ y, y = t.extract q t.size := ⟨_, rfl⟩
                have hy0 : 0 < y.size := by rw [hy]; omega
                replace hof : ∀ W, Calls Try.prog 27 #[.int .u8 ((y[0]'hy0).toNat : Int), .bool true] W fun e w' => e = .returned (.int .i64 1) ∧ W = w' := by subst hy; exact hof
                rw [← hy] at hne HY
                rw [← hy]
                have hy2 : y.size ≤ 1000000 := by rw [hy, hyz]; omega
                clear hf hst hb hyz hqt hq heq hbt hy
                go_wp2_with fail
                refine (hof _).mono ?_
                rintro e w' ⟨rfl, rfl⟩
                clear hof
                have hrow := Lib.hid (ownsRow_fr HQ.out.row ((Fr.refl (fun _ => False) wr).alloc (.cells #[.string y] ES)) (by simp))
                have hsrc := Lib.hid (SrcV.lit wr #[.string y] ES 1 rfl (by simp [Value.oneCell']) (by simp [maxLen]))
                have hlw : X.heap.size ≤ (wr.alloc (.cells #[.string y] ES)).heap.size := by have := HQ.out.below.size; simp; omega
                go_wp2_with (at_builtin; go_must (refine append_srcv _ rfl _ _ 22 rfl X.heap.size ES i0 (.string ⟨#[]⟩) 1 16 underS hi0 hz0 hz1 hz2 rfl (by decide) _ k _ rfl hrow.out _ 1 [.string y] rfl hsrc.out (by simp only [maxLen]; omega) (by omega) hlw ?_); intro b' c3 w3 hown1 hg hnr; have HO := Lib.hid hown1; have HG := Lib.hid hg; clear hown1 hg hnr)
                go_roundw
                case rel =>
                  refine ⟨k + 1, p + 1, c3, b', rfl, by go_num, by have := HP.out; omega, by omega, ?_, ?_⟩
                  · rw [← take_app HC.out HY.out]; exact HO.out
                  · exact (HQ.out.below.alloc HQ.out.below.size _).trans ((Below.refl X.heap.size _).grown HG.out hlw (fun g hgg => (hrow.out.lt g hgg).1))
                case measure => simp [RowKit.intOf]; omega
            · have heq : q = bn t := by omega
              have HY : Hid (sh1 true W (lineAt C k) = ⟨#[]⟩) := by
                show _ = _
                rw [← HT.out, sh_left, Nat.min_eq_right (by omega), ← heq]
                exact is_empty (by omega)
              have hy := is_empty (show (t.extract q t.size).size = 0 by omega)
              rw [hy]
              clear hyz hqt hq heq hbt hy
              have hrow := Lib.hid (ownsRow_fr HQ.out.row ((Fr.refl (fun _ => False) wr).alloc (.cells #[.string ⟨#[]⟩] ES)) (by simp))
              have hsrc := Lib.hid (SrcV.lit wr #[.string ⟨#[]⟩] ES 1 rfl (by simp [Value.oneCell']) (by simp [maxLen]))
              have hlw : X.heap.size ≤ (wr.alloc (.cells #[.string ⟨#[]⟩] ES)).heap.size := by have := HQ.out.below.size; simp; omega
              go_wp2_with (at_builtin; go_must (refine append_srcv _ rfl _ _ 22 rfl X.heap.size ES i0 (.string ⟨#[]⟩) 1 16 underS hi0 hz0 hz1 hz2 rfl (by decide) _ k _ rfl hrow.out _ 1 [.string ⟨#[]⟩] rfl hsrc.out (by simp only [maxLen]; omega) (by omega) hlw ?_); intro b' c3 w3 hown1 hg hnr; have HO := Lib.hid hown1; have HG := Lib.hid hg; clear hown1 hg hnr)
              go_roundw
              case rel =>
                refine ⟨k + 1, p + 1, c3, b', rfl, by go_num, by have := HP.out; omega, by omega, ?_, ?_⟩
                · rw [← take_app HC.out HY.out]; exact HO.out
                · exact (HQ.out.below.alloc HQ.out.below.size _).trans ((Below.refl X.heap.size _).grown HG.out hlw (fun g hgg => (hrow.out.lt g hgg).1))
              case measure => simp [RowKit.intOf]; omega
  · obtain rfl : K = N := by omega
    have hnk' : ¬ (1024 : Int) < (K : Int) := by omega
    have hmm : min (K : Int) 1024 = (K : Int) := by omega
    have g1 : ¬ ((K : Int) < 1) := by omega
    have g2 : ¬ ((i : Int) < 0) := by omega
    have g3 : ¬ ((j : Int) < (i : Int)) := by omega
    have g4 : ¬ ((n : Int) ≤ (j : Int)) := by omega
    have e5 : IntKind.i64.wrap (4 * (K : Int)) = (W : Int) := by rw [IntKind.wrap_i64]; omega
    have e6 : (0 : Int) < (W : Int) := by omega
    have HM := Lib.hid hM
    have HWK := Lib.hid hW
    clear hX hb hr h hok h2 h0 h3 h4 hlen hC hW hK hij hjn hn hM hc1 hc2
    go_enter Try.func22, Try.ntmps22
    go_upto_region 4 with fail
    rw [← H.out.1]
    clear g1 g2 g3 g4
    go_wp2
    go_loopw [12, 13] (fun u v wr => ∃ (k p cc : Nat) (a : Option Addr), u = .slice a k cc ∧ v = .int .i64 p ∧ p = i + k ∧ k ≤ M ∧ Hid (Tq X wr (sh1 left W) C k a cc)) (fun _ v _ => j + 1 - (RowKit.intOf v).toNat)
    case atStart => exact ⟨0, i, 0, none, rfl, rfl, rfl, Nat.zero_le _, World.ownsRow_nil X X.heap.size ES 1, Below.refl _ _⟩
    case round =>
      obtain ⟨k, p, cc, a, rfl, rfl, hp, hk, HQ⟩ := hrel
      by_cases hkM : k < M
      rotate_left
      · obtain rfl : k = M := by omega
        have hs := SrcV.ofOwn HQ.out.row (one_cells _)
        rw [List.take_of_length_le (by omega)] at hs
        have hrep := over_any (some ⟨b, o, none⟩) n c' ls i j a k cc (C.map (sh1 left W)) wr (SrcV.below HS.out HQ.out.below) hs HL.out.1 HL.out.2.1 HL.out.2.2.1
        have HB := Lib.hid HQ.out.below
        have hpj : ¬ (p : Int) ≤ (j : Int) := by have := HM.out; have := HL.out.1; omega
        clear hs HQ hp
        go_wp2_with fail
        refine hrep.mono ?_
        rintro e w5 ⟨⟨f, ⟨oa, on, oc⟩, na, nn, nc⟩, rfl, hcw, hb4⟩
        simp only [cv, sv]
        have hb5 := below_on HB.out hb4
        have hr5 := H.out.2.2.below hb5 H.out.2.2.lt
        have m0 := hr5.c0
        have m1 : w5.cell? ⟨w.heap.size, 1, none⟩ = some (.slice none 0 0) := hr5.c1
        have m2 : w5.cell? ⟨w.heap.size, 2, none⟩ = some (.slice none 0 0) := hr5.c2
        have z := hr5.z
        have HE : Hid (ChAt (putC w5 w.heap.size (f, (oa, on, oc), (na, nn, nc))) w.heap.size (f, (oa, on, oc), (na, nn, nc)) ∧ CW (putC w5 w.heap.size (f, (oa, on, oc), (na, nn, nc))) (f, (oa, on, oc), (na, nn, nc)) ((i : Int), cutL ls i j, C.map (sh1 left W)) ∧ Below w.heap.size w (putC w5 w.heap.size (f, (oa, on, oc), (na, nn, nc)))) :=
          ⟨hr5.set _, CW.putC hcw hr5, putC_below (below_on H.out.2.1 hb5) (Nat.le_refl _) _⟩
        clear hrep hcw hb4 hb5 hr5
        go_wp2
        exact ret_cb (g := w.heap.size) rfl rfl rfl rfl HE.out.1 ⟨_, rfl, HE.out.2.1, HE.out.2.2⟩
      have hlen := HL.out.2.2.2.1
      have hjn := HL.out.2.1
      have hM := HM.out
      have hn := HL.out.2.2.1
      have hpl : p < ls.length := by omega
      obtain ⟨b', o', he, hcx, _⟩ := Ss.read (SrcV.below HS.out HQ.out.below) p hpl
      simp only [Option.some.injEq, Addr.mk.injEq, and_true] at he
      obtain ⟨rfl, rfl⟩ := he
      rw [← lineAt_get hpl] at hcx
      have hCk : lineAt C k = lineAt ls p := by rw [HL.out.2.2.2.2.1, hp]; exact cutL_at (by omega) (by omega)
      have hsz : (lineAt C k).size ≤ 1000000 := by
        have := tz_mem C _ (List.getElem_mem (show k < C.length by omega))
        rw [lineAt_get (by omega)]
        omega
      rw [← hCk] at hcx
      have HC := Lib.hid (show k < C.length by omega)
      have hpj : (p : Int) ≤ (j : Int) := by omega
      have hpn : (p : Int) < (n : Int) := by omega
      have hw : IntKind.i64.wrap ((p : Int) + 1) = ((p + 1 : Nat) : Int) := by rw [IntKind.wrap_i64]; omega
      have hk6 : k ≤ 1000000 := by omega
      have hpj' : p ≤ j := by omega
      have HP := Lib.hid hp
      clear hlen hjn hM hn hpl hCk hp
      obtain ⟨t, ht⟩ : ∃ t, t = lineAt C k := ⟨_, rfl⟩
      rw [← ht] at hcx hsz
      have HT := Lib.hid ht
      clear ht
      have hbt := bn_le t
      cases left with
      | false =>
        by_cases h0 : t.size = 0
        · have HY : Hid (sh1 false W (lineAt C k) = ⟨#[]⟩) := by
            show _ = _
            rw [← HT.out, sh_none h0]
            exact is_empty h0
          have hse := is_empty h0
          subst hse
          clear h0 hbt
          go_wp2
          clear hcx
          go_loop [14, 15] (fun u v => u = .string ⟨#[]⟩ ∧ v = .int .i64 0) (fun u v => 0)
          case atStart => exact ⟨rfl, rfl⟩
          case round =>
            obtain ⟨rfl, rfl⟩ := hrel
            have hrow := Lib.hid (ownsRow_fr HQ.out.row ((Fr.refl (fun _ => False) wr).alloc (.cells #[.string ⟨#[]⟩] ES)) (by simp))
            have hsrc := Lib.hid (SrcV.lit wr #[.string ⟨#[]⟩] ES 1 rfl (by simp [Value.oneCell']) (by simp [maxLen]))
            have hlw : X.heap.size ≤ (wr.alloc (.cells #[.string ⟨#[]⟩] ES)).heap.size := by have := HQ.out.below.size; simp; omega
            go_wp2_with (at_builtin; go_must (refine append_srcv _ rfl _ _ 22 rfl X.heap.size ES i0 (.string ⟨#[]⟩) 1 16 underS hi0 hz0 hz1 hz2 rfl (by decide) _ k _ rfl hrow.out _ 1 [.string ⟨#[]⟩] rfl hsrc.out (by simp only [maxLen]; omega) (by omega) hlw ?_); intro b' c3 w3 hown1 hg hnr; have HO := Lib.hid hown1; have HG := Lib.hid hg; clear hown1 hg hnr)
            go_roundw
            case rel =>
              refine ⟨k + 1, p + 1, c3, b', rfl, by go_num, by have := HP.out; omega, by omega, ?_, ?_⟩
              · rw [← take_app HC.out HY.out]; exact HO.out
              · exact (HQ.out.below.alloc HQ.out.below.size _).trans ((Below.refl X.heap.size _).grown HG.out hlw (fun g hgg => (hrow.out.lt g hgg).1))
            case measure => simp [RowKit.intOf]; omega
        · have hse : t.toList.isEmpty = false := not_empty h0
          have HY : Hid (sh1 false W (lineAt C k) = rep W 32 ++ t) := by
            show _ = _
            rw [← HT.out, sh_right h0]
          have hsm := same_bytes 32 W wr (by omega)
          have hrs := rep_size W 32
          clear h0 hbt
          go_wp2_with (first | (refine hsm.mono ?_; rintro e w5 ⟨rfl, hb5⟩; clear hsm hcx; have HQ := Lib.hid (HQ.out.on hb5); clear hb5) | fail)
          clear hse
          go_loop [14, 15] (fun u v => u = .string (rep W 32 ++ t) ∧ v = .int .i64 0) (fun u v => 0)
          case atStart => exact ⟨rfl, rfl⟩
          case round =>
            obtain ⟨rfl, rfl⟩ := hrel
            have hrow := Lib.hid (ownsRow_fr HQ.out.row ((Fr.refl (fun _ => False) w5).alloc (.cells #[.string (rep W 32 ++ t)] ES)) (by simp))
            have hsrc := Lib.hid (SrcV.lit w5 #[.string (rep W 32 ++ t)] ES 1 rfl (by simp [Value.oneCell']) (by simp [maxLen]))
            have hlw : X.heap.size ≤ (w5.alloc (.cells #[.string (rep W 32 ++ t)] ES)).heap.size := by have := HQ.out.below.size; simp; omega
            go_wp2_with (at_builtin; go_must (refine append_srcv _ rfl _ _ 22 rfl X.heap.size ES i0 (.string ⟨#[]⟩) 1 16 underS hi0 hz0 hz1 hz2 rfl (by decide) _ k _ rfl hrow.out _ 1 [.string (rep W 32 ++ t)] rfl hsrc.out (by simp only [maxLen]; omega) (by omega) hlw ?_); intro b' c3 w3 hown1 hg hnr; have HO := Lib.hid hown1; have HG := Lib.hid hg; clear hown1 hg hnr)
            go_roundw
            case rel =>
              refine ⟨k + 1, p + 1, c3, b', rfl, by go_num, by have := HP.out; omega, by omega, ?_, ?_⟩
              · rw [← take_app HC.out HY.out]; exact HO.out
              · exact (HQ.out.below.alloc HQ.out.below.size _).trans ((Below.refl X.heap.size _).grown HG.out hlw (fun g hgg => (hrow.out.lt g hgg).1))
            case measure => simp [RowKit.intOf]; omega
      | true =>
        by_cases h0 : t.size = 0
        · have hse := is_empty h0
          have HY : Hid (sh1 true W (lineAt C k) = ⟨#[]⟩) := by
            show _ = _
            rw [← HT.out, sh_left]
            refine is_empty ?_
            rw [ByteArray.size_extract]
            omega
          subst hse
          clear h0 hbt
          go_wp2
          clear hcx
          go_loop [14, 15] (fun u v => u = .string ⟨#[]⟩ ∧ v = .int .i64 0) (fun u v => 0)
          case atStart => exact ⟨rfl, rfl⟩
          case round =>
            obtain ⟨rfl, rfl⟩ := hrel
            have hrow := Lib.hid (ownsRow_fr HQ.out.row ((Fr.refl (fun _ => False) wr).alloc (.cells #[.string ⟨#[]⟩] ES)) (by simp))
            have hsrc := Lib.hid (SrcV.lit wr #[.string ⟨#[]⟩] ES 1 rfl (by simp [Value.oneCell']) (by simp [maxLen]))
            have hlw : X.heap.size ≤ (wr.alloc (.cells #[.string ⟨#[]⟩] ES)).heap.size := by have := HQ.out.below.size; simp; omega
            go_wp2_with (at_builtin; go_must (refine append_srcv _ rfl _ _ 22 rfl X.heap.size ES i0 (.string ⟨#[]⟩) 1 16 underS hi0 hz0 hz1 hz2 rfl (by decide) _ k _ rfl hrow.out _ 1 [.string ⟨#[]⟩] rfl hsrc.out (by simp only [maxLen]; omega) (by omega) hlw ?_); intro b' c3 w3 hown1 hg hnr; have HO := Lib.hid hown1; have HG := Lib.hid hg; clear hown1 hg hnr)
            go_roundw
            case rel =>
              refine ⟨k + 1, p + 1, c3, b', rfl, by go_num, by have := HP.out; omega, by omega, ?_, ?_⟩
              · rw [← take_app HC.out HY.out]; exact HO.out
              · exact (HQ.out.below.alloc HQ.out.below.size _).trans ((Below.refl X.heap.size _).grown HG.out hlw (fun g hgg => (hrow.out.lt g hgg).1))
            case measure => simp [RowKit.intOf]; omega
        · have hse : t.toList.isEmpty = false := not_empty h0
          clear h0
          go_wp2
          clear hcx hse
          go_loop [14, 15] (fun u v => ∃ q : Nat, q ≤ W ∧ q ≤ bn t ∧ u = .string (t.extract q t.size) ∧ v = .int .i64 q) (fun u v => szOf u)
          case atStart => exact ⟨0, Nat.zero_le _, Nat.zero_le _, by rw [ext_zero], rfl⟩
          case round =>
            obtain ⟨q, hqW, hq, rfl, rfl⟩ := hrel
            have hyz : (t.extract q t.size).size = t.size - q := by rw [ByteArray.size_extract]; omega
            by_cases hqw : q < W
            rotate_left
            · obtain rfl : q = W := by omega
              have HY : Hid (sh1 true q (lineAt C k) = t.extract q t.size) := by
                show _ = _
                rw [← HT.out, sh_left, Nat.min_eq_left hq]
              have hqw' : ¬ (q : Int) < (q : Int) := by omega
              clear hyz hqw hqW hbt
              have hrow := Lib.hid (ownsRow_fr HQ.out.row ((Fr.refl (fun _ => False) wr).alloc (.cells #[.string (t.extract q t.size)] ES)) (by simp))
              have hsrc := Lib.hid (SrcV.lit wr #[.string (t.extract q t.size)] ES 1 rfl (by simp [Value.oneCell']) (by simp [maxLen]))
              have hlw : X.heap.size ≤ (wr.alloc (.cells #[.string (t.extract q t.size)] ES)).heap.size := by have := HQ.out.below.size; simp; omega
              go_wp2_with (at_builtin; go_must (refine append_srcv _ rfl _ _ 22 rfl X.heap.size ES i0 (.string ⟨#[]⟩) 1 16 underS hi0 hz0 hz1 hz2 rfl (by decide) _ k _ rfl hrow.out _ 1 [.string (t.extract q t.size)] rfl hsrc.out (by simp only [maxLen]; omega) (by omega) hlw ?_); intro b' c3 w3 hown1 hg hnr; have HO := Lib.hid hown1; have HG := Lib.hid hg; clear hown1 hg hnr)
              go_roundw
              case rel =>
                refine ⟨k + 1, p + 1, c3, b', rfl, by go_num, by have := HP.out; omega, by omega, ?_, ?_⟩
                · rw [← take_app HC.out HY.out]; exact HO.out
                · exact (HQ.out.below.alloc HQ.out.below.size _).trans ((Below.refl X.heap.size _).grown HG.out hlw (fun g hgg => (hrow.out.lt g hgg).1))
              case measure => simp [RowKit.intOf]; omega
            have hqw' : (q : Int) < (W : Int) := by omega
            by_cases hqt : q < t.size
            · have hf := ext_first hqt (by omega)
              have hst := ext_step t q hqt
              have hof := fun W => of5_bl ((t.extract q t.size)[0]'(by omega)) W
              rw [hf] at hof
              have hne : (t.extract q t.size).toList.isEmpty = false := not_empty (by omega)
              cases hb : bl (t[q]'hqt) with
              | true =>
                have hlt : q < bn t := by
                  rcases Nat.lt_or_ge q (bn t) with h | h
                  · exact h
                  · have h3 := bn_at (show q = bn t by omega) hqt
                    rw [hb] at h3
                    cases h3
                rw [hb] at hof
                simp only [if_true] at hof
                rw [← hf] at hof
                have HST := Lib.hid (And.intro hst (And.intro hlt (And.intro hyz hqt)))
                obtain ⟨y, hy⟩ : ∃ y, y = t.extract q t.size := ⟨_, rfl⟩
                have hy0 : 0 < y.size := by rw [hy]; omega
                replace hof : ∀ W, Calls Try.prog 27 #[.int .u8 ((y[0]'hy0).toNat : Int), .bool true] W fun e w' => e = .returned (.int .i64 0) ∧ W = w' := by subst hy; exact hof
                rw [← hy] at hne HST
                rw [← hy]
                have hy1 : (1 : Int) ≤ (y.size : Int) := by omega
                have hy2 : y.size ≤ 1000000 := by rw [hy, hyz]; omega
                have hwq : IntKind.i64.wrap ((q : Int) + 1) = ((q + 1 : Nat) : Int) := by rw [IntKind.wrap_i64]; omega
                clear hf hst hb hlt hyz hqt hq
                have HYY := Lib.hid hy
                clear hy
                go_wp2_with fail
                refine (hof _).mono ?_
                rintro e w' ⟨rfl, rfl⟩
                go_wp2
                go_round
                case rel => exact ⟨q + 1, by omega, HST.out.2.1, by rw [HST.out.1], by go_num⟩
                case measure =>
                  show (y.extract 1 y.size).size < y.size
                  rw [ByteArray.size_extract]
                  omega
              | false =>
                have heq : q = bn t := by
                  rcases Nat.lt_or_ge q (bn t) with h | h
                  · have h3 := bn_lt h hqt
                    rw [hb] at h3
                    cases h3
                  · omega
                have HY : Hid (sh1 true W (lineAt C k) = t.extract q t.size) := by
                  show _ = _
                  rw [← HT.out, sh_left, Nat.min_eq_right (by omega), heq]
                rw [hb] at hof
                simp only [Bool.false_eq_true, if_false] at hof
                rw [← hf] at hof
                obtain ⟨y, hy⟩ : ∃ y, y = t.extract q t.size := ⟨_, rfl⟩
                have hy0 : 0 < y.size := by rw [hy]; omega
                replace hof : ∀ W, Calls Try.prog 27 #[.int .u8 ((y[0]'hy0).toNat : Int), .bool true] W fun e w' => e = .returned (.int .i64 1) ∧ W = w' := by subst hy; exact hof
                rw [← hy] at hne HY
                rw [← hy]
                have hy2 : y.size ≤ 1000000 := by rw [hy, hyz]; omega
                clear hf hst hb hyz hqt hq heq hbt hy
                go_wp2_with fail
                refine (hof _).mono ?_
                rintro e w' ⟨rfl, rfl⟩
                clear hof
                have hrow := Lib.hid (ownsRow_fr HQ.out.row ((Fr.refl (fun _ => False) wr).alloc (.cells #[.string y] ES)) (by simp))
                have hsrc := Lib.hid (SrcV.lit wr #[.string y] ES 1 rfl (by simp [Value.oneCell']) (by simp [maxLen]))
                have hlw : X.heap.size ≤ (wr.alloc (.cells #[.string y] ES)).heap.size := by have := HQ.out.below.size; simp; omega
                go_wp2_with (at_builtin; go_must (refine append_srcv _ rfl _ _ 22 rfl X.heap.size ES i0 (.string ⟨#[]⟩) 1 16 underS hi0 hz0 hz1 hz2 rfl (by decide) _ k _ rfl hrow.out _ 1 [.string y] rfl hsrc.out (by simp only [maxLen]; omega) (by omega) hlw ?_); intro b' c3 w3 hown1 hg hnr; have HO := Lib.hid hown1; have HG := Lib.hid hg; clear hown1 hg hnr)
                go_roundw
                case rel =>
                  refine ⟨k + 1, p + 1, c3, b', rfl, by go_num, by have := HP.out; omega, by omega, ?_, ?_⟩
                  · rw [← take_app HC.out HY.out]; exact HO.out
                  · exact (HQ.out.below.alloc HQ.out.below.size _).trans ((Below.refl X.heap.size _).grown HG.out hlw (fun g hgg => (hrow.out.lt g hgg).1))
                case measure => simp [RowKit.intOf]; omega
            · have heq : q = bn t := by omega
              have HY : Hid (sh1 true W (lineAt C k) = ⟨#[]⟩) := by
                show _ = _
                rw [← HT.out, sh_left, Nat.min_eq_right (by omega), ← heq]
                exact is_empty (by omega)
              have hy := is_empty (show (t.extract q t.size).size = 0 by omega)
              rw [hy]
              clear hyz hqt hq heq hbt hy
              have hrow := Lib.hid (ownsRow_fr HQ.out.row ((Fr.refl (fun _ => False) wr).alloc (.cells #[.string ⟨#[]⟩] ES)) (by simp))
              have hsrc := Lib.hid (SrcV.lit wr #[.string ⟨#[]⟩] ES 1 rfl (by simp [Value.oneCell']) (by simp [maxLen]))
              have hlw : X.heap.size ≤ (wr.alloc (.cells #[.string ⟨#[]⟩] ES)).heap.size := by have := HQ.out.below.size; simp; omega
              go_wp2_with (at_builtin; go_must (refine append_srcv _ rfl _ _ 22 rfl X.heap.size ES i0 (.string ⟨#[]⟩) 1 16 underS hi0 hz0 hz1 hz2 rfl (by decide) _ k _ rfl hrow.out _ 1 [.string ⟨#[]⟩] rfl hsrc.out (by simp only [maxLen]; omega) (by omega) hlw ?_); intro b' c3 w3 hown1 hg hnr; have HO := Lib.hid hown1; have HG := Lib.hid hg; clear hown1 hg hnr)
              go_roundw
              case rel =>
                refine ⟨k + 1, p + 1, c3, b', rfl, by go_num, by have := HP.out; omega, by omega, ?_, ?_⟩
                · rw [← take_app HC.out HY.out]; exact HO.out
                · exact (HQ.out.below.alloc HQ.out.below.size _).trans ((Below.refl X.heap.size _).grown HG.out hlw (fun g hgg => (hrow.out.lt g hgg).1))
              case measure => simp [RowKit.intOf]; omega
end Go.Proofs.Ytkddnknjjdenhaa.Ed
