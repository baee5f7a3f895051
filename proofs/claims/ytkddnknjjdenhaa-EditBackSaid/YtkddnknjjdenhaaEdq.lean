/-
  The seat's ranges.
-/
import Derived.Test.YtkddnknjjdenhaaEdf
set_option linter.unusedVariables false
set_option linter.unusedSimpArgs false
set_option maxRecDepth 100000
namespace Go.Proofs.Ytkddnknjjdenhaa.Ed
open Go Go.RowKit Go.Proofs.Ytkddnknjjdenhaa.Vk Go.Proofs.Ytkddnknjjdenhaa.Str Go.Proofs.Ytkddnknjjdenhaa.Ln Go.Proofs.Ytkddnknjjdenhaa.Cl Go.Proofs.Ytkddnknjjdenhaa.Mv
attribute [local go_sem] Oper.semAt_some

/-- What stands between the operations: the answer's variable, two places. -/
structure Sq (w V : World) (f c t d : Int) : Prop where
  below : Below w.heap.size w V
  rg : RgAt V w.heap.size 0 0 0 0 0
  p1 : PosAt V (w.heap.size + 1) f c
  p2 : PosAt V (w.heap.size + 2) t d
section
variable {w V : World} {f c t d : Int}
theorem Sq.new (w : World) (f t : Int) : Sq w (((w.alloc (.cells #[.int .i64 0, .int .i64 0, .int .i64 0, .int .i64 0, .int .i64 0] TG)).alloc (.cells #[.int .i64 f, .int .i64 0] 24)).alloc (.cells #[.int .i64 t, .int .i64 0] 24)) f 0 t 0 := by
  refine ⟨below_on (one_below _ _) (below_on (one_below _ _) (one_below _ _)), (RgAt.new w 0 0 0 0 0).below (below_on (one_below _ _) (one_below _ _)) (by simp), ?_, ?_⟩
  · have h : PosAt ((w.alloc (.cells #[.int .i64 0, .int .i64 0, .int .i64 0, .int .i64 0, .int .i64 0] TG)).alloc (.cells #[.int .i64 f, .int .i64 0] 24)) (w.heap.size + 1) f 0 := two_new w _ _
    exact h.below (one_below _ _) (by simp)
  · have h := PosAt.new ((w.alloc (.cells #[.int .i64 0, .int .i64 0, .int .i64 0, .int .i64 0, .int .i64 0] TG)).alloc (.cells #[.int .i64 f, .int .i64 0] 24)) t 0
    rw [show ((w.alloc (.cells #[.int .i64 0, .int .i64 0, .int .i64 0, .int .i64 0, .int .i64 0] TG)).alloc (.cells #[.int .i64 f, .int .i64 0] 24)).heap.size = w.heap.size + 2 by simp] at h
    exact h
theorem pos_set0 {g : Nat} {x y : Int} (h : PosAt w g x y) (l : Int) : PosAt (w.setCell ⟨g, 0, none⟩ (.int .i64 l)) g l y := (heap_setCell_same w g 0 _ _ (.int .i64 l) h).trans (by simp)
theorem pos_set1 {g : Nat} {x y : Int} (h : PosAt w g x y) (l : Int) : PosAt (w.setCell ⟨g, 1, none⟩ (.int .i64 l)) g x l := (heap_setCell_same w g 1 _ _ (.int .i64 l) h).trans (by simp)
theorem rg_set {g g' k : Nat} {v : Value} {a b c d e : Int} (h : RgAt w g a b c d e) (hg : g ≠ g') : RgAt (w.setCell ⟨g', k, none⟩ v) g a b c d e := (Below.heap_setCell _ _ _ _ hg).trans h
theorem Sq.f0 (h : Sq w V f c t d) (l : Int) : Sq w (V.setCell ⟨w.heap.size + 1, 0, none⟩ (.int .i64 l)) l c t d := ⟨h.below.setCell (p := ⟨w.heap.size + 1, 0, none⟩) (by show w.heap.size ≤ w.heap.size + 1; omega) _, rg_set h.rg (by omega), pos_set0 h.p1 l, h.p2.other (by omega)⟩
theorem Sq.f1 (h : Sq w V f c t d) (l : Int) : Sq w (V.setCell ⟨w.heap.size + 1, 1, none⟩ (.int .i64 l)) f l t d := ⟨h.below.setCell (p := ⟨w.heap.size + 1, 1, none⟩) (by show w.heap.size ≤ w.heap.size + 1; omega) _, rg_set h.rg (by omega), pos_set1 h.p1 l, h.p2.other (by omega)⟩
theorem Sq.t0 (h : Sq w V f c t d) (l : Int) : Sq w (V.setCell ⟨w.heap.size + 2, 0, none⟩ (.int .i64 l)) f c l d := ⟨h.below.setCell (p := ⟨w.heap.size + 2, 0, none⟩) (by show w.heap.size ≤ w.heap.size + 2; omega) _, rg_set h.rg (by omega), h.p1.other (by omega), pos_set0 h.p2 l⟩
theorem Sq.t1 (h : Sq w V f c t d) (l : Int) : Sq w (V.setCell ⟨w.heap.size + 2, 1, none⟩ (.int .i64 l)) f c t l := ⟨h.below.setCell (p := ⟨w.heap.size + 2, 1, none⟩) (by show w.heap.size ≤ w.heap.size + 2; omega) _, rg_set h.rg (by omega), h.p1.other (by omega), pos_set1 h.p2 l⟩
end
/-- What the seat's range keeps. -/
structure Rs (ls : List ByteArray) (k f c t d : Nat) : Prop where
  ft : f ≤ t
  tn : t < ls.length
  one : f = t → c ≤ d
  blk : k = 2 → c ≤ d
  pl : k ≠ 2 → c ≤ (lineAt ls f).size ∧ d ≤ (lineAt ls t).size
  small : c ≤ 1000000 ∧ d ≤ 1000000

set_option maxHeartbeats 8000000 in
theorem range_any (a : Option Addr) (n c' : Nat) (ls : List ByteArray) (ky x y u v : Int) (w : World) (h : Ss w a n c' ls) (h0 : 0 < n) (hn : n ≤ 1000000) (hz : ∀ s ∈ ls, s.size ≤ 100000) (hk : 0 ≤ ky ∧ ky ≤ 255) (hx : 0 ≤ x ∧ x ≤ 65535) (hy : 0 ≤ y ∧ y ≤ 65535) (hu : 0 ≤ u ∧ u ≤ 65535) (hv : 0 ≤ v ∧ v ≤ 65535) :
    Calls Try.prog 23 #[.slice a n c', .int .u8 ky, .int .u16 x, .int .u16 y, .int .u16 u, .int .u16 v] w fun e w' =>
      ∃ f c t d : Nat, e = .returned (.agg #[.int .i64 ((ky % 3).toNat : Nat), .int .i64 f, .int .i64 c, .int .i64 t, .int .i64 d]) ∧ Rs ls (ky % 3).toNat f c t d ∧ Below w.heap.size w w' := by
  have hlen := h.length
  obtain ⟨F, hF⟩ : ∃ F : Nat, x.tmod n = (F : Int) := ⟨(x.tmod n).toNat, by have := Int.tmod_nonneg (n : Int) hx.1; omega⟩
  obtain ⟨T, hT⟩ : ∃ T : Nat, y.tmod n = (T : Int) := ⟨(y.tmod n).toNat, by have := Int.tmod_nonneg (n : Int) hy.1; omega⟩
  have hFn : F < n := by have := Int.tmod_lt_of_pos x (b := (n : Int)) (by omega); omega
  have hTn : T < n := by have := Int.tmod_lt_of_pos y (b := (n : Int)) (by omega); omega
  obtain ⟨K, hK⟩ : ∃ K : Nat, ky % 3 = (K : Int) := ⟨(ky % 3).toNat, by omega⟩
  have hK2 : K ≤ 2 := by omega
  have hKm : ky.tmod 3 = (K : Int) := by rw [Int.tmod_eq_emod_of_nonneg hk.1]; exact hK
  rw [hK, Int.toNat_natCast]
  have w1 : IntKind.i64.wrap x = x := by rw [IntKind.wrap_i64]; omega
  have w2 : IntKind.i64.wrap y = y := by rw [IntKind.wrap_i64]; omega
  have w3 : IntKind.i64.wrap u = u := by rw [IntKind.wrap_i64]; omega
  have w4 : IntKind.i64.wrap v = v := by rw [IntKind.wrap_i64]; omega
  have w5 : IntKind.i64.wrap (K : Int) = (K : Int) := by rw [IntKind.wrap_i64]; omega
  have hq := Sq.new w F T
  have HS := Lib.hid (And.intro h (And.intro hlen (And.intro hz (And.intro hu hv))))
  have HN := Lib.hid (And.intro hFn hTn)
  clear h hlen hz hx hy hFn hTn hK hu hv
  go_enter Try.func23, Try.ntmps23
  go_upto_if 33 with fail
  go_cut [] from 33 to 39 (fun wx => ∃ f t : Nat, Hid (Sq w wx f 0 t 0 ∧ f ≤ t ∧ t < n))
  case first =>
    clear hF hT hKm w1 w2 w3 w4 w5
    by_cases hlt : T < F
    · have hlt' : (T : Int) < (F : Int) := by omega
      obtain ⟨V, hV⟩ : ∃ V, V = ((w.alloc (.cells #[.int .i64 0, .int .i64 0, .int .i64 0, .int .i64 0, .int .i64 0] 48)).alloc (.cells #[.int .i64 F, .int .i64 0] 24)).alloc (.cells #[.int .i64 T, .int .i64 0] 24) := ⟨_, rfl⟩
      have hq : Sq w V F 0 T 0 := by rw [hV]; exact hq
      rw [← hV]
      have HF : Hid (Sq w ((V.setCell ⟨w.heap.size + 1, 0, none⟩ (.int .i64 T)).setCell ⟨w.heap.size + 2, 0, none⟩ (.int .i64 F)) T 0 F 0 ∧ T ≤ F ∧ F < n) := ⟨(hq.f0 T).t0 F, by omega, HN.out.1⟩
      have p0 := hq.p1.c0
      have q0 := hq.p2.c0
      have z1 := pos_z hq.p1
      have hq2 := hq.f0 T
      have q1 := hq2.p2.c0
      have z2 := pos_z hq2.p2
      clear hV hq hq2
      go_wp2
      go_meet
      case rel => exact ⟨T, F, HF⟩
    · have hlt' : ¬ (T : Int) < (F : Int) := by omega
      have HF : Hid (Sq w (((w.alloc (.cells #[.int .i64 0, .int .i64 0, .int .i64 0, .int .i64 0, .int .i64 0] TG)).alloc (.cells #[.int .i64 F, .int .i64 0] 24)).alloc (.cells #[.int .i64 T, .int .i64 0] 24)) F 0 T 0 ∧ F ≤ T ∧ T < n) := ⟨hq, by omega, HN.out.2⟩
      clear hq
      go_wp2
      go_meet
      case rel => exact ⟨F, T, HF⟩
  case rest =>
    obtain ⟨f, t, HC⟩ := hcut
    clear hF hT
    have hfl : f < ls.length := by have := HC.out.2; have := HS.out.2.1; omega
    have htl : t < ls.length := by have := HC.out.2; have := HS.out.2.1; omega
    obtain ⟨b, o, rfl, hcf, _⟩ := Ss.read (SrcV.below HS.out.1 HC.out.1.below) f hfl
    obtain ⟨b', o', he, hct, _⟩ := Ss.read (SrcV.below HS.out.1 HC.out.1.below) t htl
    simp only [Option.some.injEq, Addr.mk.injEq, and_true] at he
    obtain ⟨rfl, rfl⟩ := he
    rw [← lineAt_get hfl] at hcf
    rw [← lineAt_get htl] at hct
    have zf : (lineAt ls f).size ≤ 100000 := by rw [lineAt_get hfl]; exact HS.out.2.2.1 _ (List.getElem_mem hfl)
    have zt : (lineAt ls t).size ≤ 100000 := by rw [lineAt_get htl]; exact HS.out.2.2.1 _ (List.getElem_mem htl)
    have hbl : b < w.heap.size := by
      obtain ⟨b2, o2, he2, hc2, _⟩ := Ss.read HS.out.1 f hfl
      simp only [Option.some.injEq, Addr.mk.injEq, and_true] at he2
      obtain ⟨rfl, rfl⟩ := he2
      exact World.block_lt_of_cell? w _ hc2
    obtain ⟨sf, hsf⟩ : ∃ sf, sf = lineAt ls f := ⟨_, rfl⟩
    obtain ⟨st, hst⟩ : ∃ st, st = lineAt ls t := ⟨_, rfl⟩
    rw [← hsf] at hcf zf
    rw [← hst] at hct zt
    obtain ⟨c0, hc0⟩ : ∃ c0 : Nat, u.tmod ((sf.size : Int) + 1) = (c0 : Int) := ⟨(u.tmod ((sf.size : Int) + 1)).toNat, by have := Int.tmod_nonneg ((sf.size : Int) + 1) HS.out.2.2.2.1.1; omega⟩
    obtain ⟨d0, hd0⟩ : ∃ d0 : Nat, v.tmod ((st.size : Int) + 1) = (d0 : Int) := ⟨(v.tmod ((st.size : Int) + 1)).toNat, by have := Int.tmod_nonneg ((st.size : Int) + 1) HS.out.2.2.2.2.1; omega⟩
    have hcs : c0 ≤ sf.size := by have := Int.tmod_lt_of_pos u (b := (sf.size : Int) + 1) (by omega); omega
    have hds : d0 ≤ st.size := by have := Int.tmod_lt_of_pos v (b := (st.size : Int) + 1) (by omega); omega
    have e1 : IntKind.i64.wrap ((sf.size : Int) + 1) = (sf.size : Int) + 1 := by rw [IntKind.wrap_i64]; omega
    have e2 : IntKind.i64.wrap ((st.size : Int) + 1) = (st.size : Int) + 1 := by rw [IntKind.wrap_i64]; omega
    have e3 : (f : Int) < (n : Int) := by have := HC.out.2; omega
    have e4 : (t : Int) < (n : Int) := by have := HC.out.2; omega
    have HL := Lib.hid (And.intro hsf hst)
    have p0 := HC.out.1.p1.c0
    have p1 := HC.out.1.p1.c1
    have z1 := pos_z HC.out.1.p1
    clear hsf hst hfl htl
    go_upto_region 7 with fail
    obtain ⟨V1, hV1⟩ : ∃ V1, V1 = wc.setCell ⟨w.heap.size + 1, 1, none⟩ (.int .i64 c0) := ⟨_, rfl⟩
    have hq1 : Sq w V1 f c0 t 0 := by rw [hV1]; exact HC.out.1.f1 c0
    have hct1 : V1.cell? ⟨b, o + t, none⟩ = some (.string st) := by rw [hV1]; exact ((((Fr.refl (fun j => j = w.heap.size + 1) wc).setCell (p := ⟨w.heap.size + 1, 1, none⟩) (fun _ => rfl) (.int .i64 (c0 : Int)))).cell hct (by show ¬ b = w.heap.size + 1; omega))
    rw [← hV1]
    clear hV1 p0 p1 z1 hcf hct
    have q0 := hq1.p2.c0
    have q1 := hq1.p2.c1
    have z2 := pos_z hq1.p2
    go_upto_region 8 with fail
    obtain ⟨V2, hV2⟩ : ∃ V2, V2 = V1.setCell ⟨w.heap.size + 2, 1, none⟩ (.int .i64 d0) := ⟨_, rfl⟩
    have hq2 : Sq w V2 f c0 t d0 := by rw [hV2]; exact hq1.t1 d0
    rw [show V1.setCell ⟨w.heap.size + 1 + 1, 1, none⟩ (.int .i64 d0) = V2 from hV2.symm]
    have HQ2 := Lib.hid hq2
    clear hV2 q0 q1 z2 hct1 hq1 hc0 hd0 e1 e2 e3 e4
    have p0 := hq2.p1.c0
    have p1 := hq2.p1.c1
    have q0 := hq2.p2.c0
    have q1 := hq2.p2.c1
    clear hq2
    go_cut [73] from 62 to 73 (fun s wx => ∃ B : Bool, s = .bool B ∧ V2 = wx ∧ Hid (B = decide (f = t ∧ d0 < c0)))
    case first =>
      by_cases hft : f = t
      · have x1 : ((f : Int) == (t : Int)) = true := by rw [beq_iff_eq]; omega
        have x1' : (f == t) = true := by rw [beq_iff_eq]; exact hft
        by_cases hcd : d0 < c0
        · have x2 : (d0 : Int) < (c0 : Int) := by omega
          have HF : Hid (decide (f = t ∧ d0 < c0) = true) := decide_eq_true ⟨hft, hcd⟩
          clear hft
          go_wp2
          go_meet
          case rel => exact ⟨true, rfl, rfl, HF.out.symm⟩
        · have x2 : ¬ (d0 : Int) < (c0 : Int) := by omega
          have HF : Hid (decide (f = t ∧ d0 < c0) = false) := decide_eq_false fun h => hcd h.2
          clear hft
          go_wp2
          go_meet
          case rel => exact ⟨false, rfl, rfl, HF.out.symm⟩
      · have x1 : ((f : Int) == (t : Int)) = false := by rw [beq_eq_false_iff_ne]; omega
        have x1' : (f == t) = false := by rw [beq_eq_false_iff_ne]; exact hft
        have HF : Hid (decide (f = t ∧ d0 < c0) = false) := decide_eq_false fun h => hft h.1
        clear hft
        go_wp2
        go_meet
        case rel => exact ⟨false, rfl, rfl, HF.out.symm⟩
    case rest =>
    obtain ⟨B, rfl, hwx, HB⟩ := hcut
    subst hwx
    go_upto_if 73 with fail
    go_cut [] from 73 to 79 (fun wx => ∃ c d : Nat, Hid (Sq w wx f c t d ∧ (f = t → c ≤ d) ∧ c ≤ sf.size ∧ d ≤ st.size))
    case first =>
      cases B with
      | true =>
        obtain ⟨hft, hcd⟩ := of_decide_eq_true HB.out.symm
        have hss : sf.size = st.size := by rw [HL.out.1, HL.out.2, hft]
        have HF : Hid (Sq w ((V2.setCell ⟨w.heap.size + 1, 1, none⟩ (.int .i64 d0)).setCell ⟨w.heap.size + 2, 1, none⟩ (.int .i64 c0)) f d0 t c0 ∧ (f = t → d0 ≤ c0) ∧ d0 ≤ sf.size ∧ c0 ≤ st.size) := ⟨(HQ2.out.f1 d0).t1 c0, by omega, by omega, by omega⟩
        have z1 := pos_z HQ2.out.p1
        have r1 := (HQ2.out.f1 d0).p2.c1
        have z2 := pos_z (HQ2.out.f1 d0).p2
        clear hft hss
        go_wp2
        go_meet
        case rel => exact ⟨d0, c0, HF⟩
      | false =>
        have hno : ¬ (f = t ∧ d0 < c0) := of_decide_eq_false HB.out.symm
        have HF : Hid (Sq w V2 f c0 t d0 ∧ (f = t → c0 ≤ d0) ∧ c0 ≤ sf.size ∧ d0 ≤ st.size) := ⟨HQ2.out, fun h => by have : ¬ d0 < c0 := fun h2 => hno ⟨h, h2⟩; omega, by omega, by omega⟩
        clear hno
        go_wp2
        go_meet
        case rel => exact ⟨c0, d0, HF⟩
    case rest =>
      obtain ⟨c, d, HD⟩ := hcut
      clear p0 p1 q0 q1
      have p0 := HD.out.1.p1.c0
      have p1 := HD.out.1.p1.c1
      have q0 := HD.out.1.p2.c0
      have q1 := HD.out.1.p2.c1
      go_upto_region 11 with fail
      obtain ⟨V3, hV3⟩ : ∃ V3, V3 = wc := ⟨_, rfl⟩
      rw [← hV3] at HD p0 p1 q0 q1
      rw [← hV3]
      clear hV3
      go_cut [91] from 83 to 91 (fun s wx => ∃ B : Bool, s = .bool B ∧ V3 = wx ∧ Hid (B = decide (K = 2 ∧ d < c)))
      case first =>
        by_cases hK3 : K = 2
        · have x1 : ((K : Int) == 2) = true := by rw [beq_iff_eq]; omega
          have x1' : (K == 2) = true := by rw [beq_iff_eq]; exact hK3
          by_cases hcd : d < c
          · have x2 : (d : Int) < (c : Int) := by omega
            have HF : Hid (decide (K = 2 ∧ d < c) = true) := decide_eq_true ⟨hK3, hcd⟩
            clear hK3
            go_wp2
            go_meet
            case rel => exact ⟨true, rfl, rfl, HF.out.symm⟩
          · have x2 : ¬ (d : Int) < (c : Int) := by omega
            have HF : Hid (decide (K = 2 ∧ d < c) = false) := decide_eq_false fun h => hcd h.2
            clear hK3
            go_wp2
            go_meet
            case rel => exact ⟨false, rfl, rfl, HF.out.symm⟩
        · have x1 : ((K : Int) == 2) = false := by rw [beq_eq_false_iff_ne]; omega
          have x1' : (K == 2) = false := by rw [beq_eq_false_iff_ne]; exact hK3
          have HF : Hid (decide (K = 2 ∧ d < c) = false) := decide_eq_false fun h => hK3 h.1
          clear hK3
          go_wp2
          go_meet
          case rel => exact ⟨false, rfl, rfl, HF.out.symm⟩
      case rest =>
      obtain ⟨B2, rfl, hwx2, HB2⟩ := hcut
      subst hwx2
      go_upto_if 91 with fail
      go_cut [] from 91 to 97 (fun wx => ∃ c d : Nat, Hid (Sq w wx f c t d ∧ (f = t → c ≤ d) ∧ (K = 2 → c ≤ d) ∧ (K ≠ 2 → c ≤ sf.size ∧ d ≤ st.size) ∧ c ≤ 1000000 ∧ d ≤ 1000000))
      case first =>
        cases B2 with
        | true =>
          obtain ⟨hK3, hcd⟩ := of_decide_eq_true HB2.out.symm
          have HF : Hid (Sq w ((V3.setCell ⟨w.heap.size + 1, 1, none⟩ (.int .i64 d)).setCell ⟨w.heap.size + 2, 1, none⟩ (.int .i64 c)) f d t c ∧ (f = t → d ≤ c) ∧ (K = 2 → d ≤ c) ∧ (K ≠ 2 → d ≤ sf.size ∧ c ≤ st.size) ∧ d ≤ 1000000 ∧ c ≤ 1000000) :=
            ⟨(HD.out.1.f1 d).t1 c, by omega, by omega, fun h => absurd hK3 h, by have := HD.out.2; omega, by have := HD.out.2; omega⟩
          have z1 := pos_z HD.out.1.p1
          have r1 := (HD.out.1.f1 d).p2.c1
          have z2 := pos_z (HD.out.1.f1 d).p2
          clear hK3
          go_wp2
          go_meet
          case rel => exact ⟨d, c, HF⟩
        | false =>
          have hno : ¬ (K = 2 ∧ d < c) := of_decide_eq_false HB2.out.symm
          have HF : Hid (Sq w V3 f c t d ∧ (f = t → c ≤ d) ∧ (K = 2 → c ≤ d) ∧ (K ≠ 2 → c ≤ sf.size ∧ d ≤ st.size) ∧ c ≤ 1000000 ∧ d ≤ 1000000) :=
            ⟨HD.out.1, HD.out.2.1, fun h => by have : ¬ d < c := fun h2 => hno ⟨h, h2⟩; omega, fun _ => HD.out.2.2, by have := HD.out.2; omega, by have := HD.out.2; omega⟩
          clear hno
          go_wp2
          go_meet
          case rel => exact ⟨c, d, HF⟩
      case rest =>
        obtain ⟨c, d, HE⟩ := hcut
        clear p0 p1 q0 q1
        have p0 := HE.out.1.p1.c0
        have p1 := HE.out.1.p1.c1
        have q0 := HE.out.1.p2.c0
        have q1 := HE.out.1.p2.c1
        have m0 := HE.out.1.rg.c0
        have m1 := HE.out.1.rg.c1
        have m2 := HE.out.1.rg.c2
        have m3 := HE.out.1.rg.c3
        have m4 := HE.out.1.rg.c4
        have z := fun k => frozen_of_row wc w.heap.size k _ _ HE.out.1.rg
        have HR : Hid (((((((wc.setCell ⟨w.heap.size, 0, none⟩ (.int .i64 K)).setCell ⟨w.heap.size, 1, none⟩ (.int .i64 f)).setCell ⟨w.heap.size, 2, none⟩ (.int .i64 c)).setCell ⟨w.heap.size, 3, none⟩ (.int .i64 t)).setCell ⟨w.heap.size, 4, none⟩ (.int .i64 d)).heap[w.heap.size]? = some (.cells #[.int .i64 K, .int .i64 f, .int .i64 c, .int .i64 t, .int .i64 d] TG (0, 0))) ∧
            Below w.heap.size w (((((wc.setCell ⟨w.heap.size, 0, none⟩ (.int .i64 K)).setCell ⟨w.heap.size, 1, none⟩ (.int .i64 f)).setCell ⟨w.heap.size, 2, none⟩ (.int .i64 c)).setCell ⟨w.heap.size, 3, none⟩ (.int .i64 t)).setCell ⟨w.heap.size, 4, none⟩ (.int .i64 d))) := by
          have h1 := heap_setCell_same wc w.heap.size 0 _ _ (.int .i64 (K : Int)) HE.out.1.rg
          have h2 := heap_setCell_same _ w.heap.size 1 _ _ (.int .i64 (f : Int)) h1
          have h3 := heap_setCell_same _ w.heap.size 2 _ _ (.int .i64 (c : Int)) h2
          have h4 := heap_setCell_same _ w.heap.size 3 _ _ (.int .i64 (t : Int)) h3
          have h5 := heap_setCell_same _ w.heap.size 4 _ _ (.int .i64 (d : Int)) h4
          exact ⟨h5.trans (by simp), ((((HE.out.1.below.setCell (p := ⟨w.heap.size, 0, none⟩) (Nat.le_refl _) _).setCell (p := ⟨w.heap.size, 1, none⟩) (Nat.le_refl _) _).setCell (p := ⟨w.heap.size, 2, none⟩) (Nat.le_refl _) _).setCell (p := ⟨w.heap.size, 3, none⟩) (Nat.le_refl _) _).setCell (p := ⟨w.heap.size, 4, none⟩) (Nat.le_refl _) _⟩
        have HRS : Hid (Rs ls K f c t d) := by
          refine ⟨HC.out.2.1, by have := HC.out.2.2; have := HS.out.2.1; omega, HE.out.2.1, HE.out.2.2.1, ?_, HE.out.2.2.2.2⟩
          rw [← HL.out.1, ← HL.out.2]
          exact HE.out.2.2.2.1
        go_wp2
        exact bodyPost_ret (results_cell_row (P := Try.prog) rfl _ _ w.heap.size _ #[.int .i64 (K : Int), .int .i64 (f : Int), .int .i64 (c : Int), .int .i64 (t : Int), .int .i64 (d : Int)] _ _ rfl HR.out.1 Try.underlying48 rfl (by kernel_rfl)) rfl ⟨f, c, t, d, rfl, HRS.out, HR.out.2⟩
end Go.Proofs.Ytkddnknjjdenhaa.Ed
