/-
  Package para: SentBack.
-/
import Derived.Test.YtpdbfdhfonfbeaaGi
import Derived.Test.YtpdbfdhfonfbeaaGn
import Derived.Test.YtpdbfdhfonfbeaaZq
import Derived.Test.YtpdbfdhfonfbeaaZh
set_option linter.unusedVariables false
set_option linter.unusedSimpArgs false
set_option maxRecDepth 100000
namespace Go.Proofs.Ytpdbfdhfonfbeaa.Pa
open Go Go.RowKit Go.Proofs.Ytpdbfdhfonfbeaa.Vk Go.Proofs.Ytpdbfdhfonfbeaa.Str Go.Proofs.Ytpdbfdhfonfbeaa.Ln Go.Proofs.Ytpdbfdhfonfbeaa.Cl Go.Proofs.Ytpdbfdhfonfbeaa.Mv Go.Proofs.Ytpdbfdhfonfbeaa.Wd Go.Shelf
attribute [local go_sem] Oper.semAt_some

/-- What stands between the rounds: the place at A, the answer behind it, the places passed at M. -/
def Bs (w Wi : World) (A M D : Nat) (p : P2) (l : List P2) (V : World) : Prop :=
  Kn w Wi V ∧ PosAt V A p.1 p.2 ∧ MvAt V (A + 1) 0 0 0 false 0 ∧ GotP M D l V ∧ ∀ q ∈ l, lp q p = true
theorem Bs.grown {w Wi : World} {A M D B : Nat} {p : P2} {l : List P2} {V V' : World} {row : Option Nat} (h : Bs w Wi A M D p l V) (hA : A + 2 ≤ B) (hM : M < B) (hB : w.heap.size ≤ B) (hg : V.grownBy V' row) (hr : ∀ r, row = some r → B ≤ r ∧ ∃ o : Obj, V.heap[r]? = some o ∧ o.isCells = false) : Bs w Wi A M D p l V' := by
  obtain ⟨h1, h2, h3, h4, h5⟩ := h
  have hk : ∀ k, k < A + 2 → k < V.heap.size → V'.heap[k]? = V.heap[k]? := fun k hk hkA => hg.block k hkA (fun e => by have := (hr _ e.symm).1; omega)
  exact ⟨own_kn (α := P2) hB [] V V' row h1 hg hr, (hk _ (by omega) h2.lt).trans h2, (hk _ (by omega) h3.lt).trans h3, h4.grown (B := B) hM hg hr, h5⟩
theorem Bs.below {w Wi : World} {A M D : Nat} {p : P2} {l : List P2} {V V' : World} (h : Bs w Wi A M D p l V) (hb : Below V.heap.size V V') : Bs w Wi A M D p l V' :=
  ⟨h.1.trans (Fr.ofBelow hb _), h.2.1.below hb h.2.1.lt, h.2.2.1.below hb h.2.2.1.lt, h.2.2.2.1.below hb, h.2.2.2.2⟩

set_option maxHeartbeats 16000000 in
theorem sback_any (a : Option Addr) (n c' : Nat) (ls : List ByteArray) (l c : Int) (nn : Int) (w : World) (h : Ss w a n c' ls) (hs : ∀ s ∈ ls, s.size ≤ 140737488355328) (hn6 : n ≤ 1000000) (htz : tz ls ≤ 900000) (hnn : nn ≤ 9223372036854775807) :
    Calls Try.prog 24 #[.slice a n c', .agg #[.int .i64 l, .int .i64 c], .int .i64 nn] w fun e w' => e = .returned (sbR ls l c nn).v ∧ Below w.heap.size w w' := by
  have hlen := h.length
  have hn := h.le63
  by_cases hpk : Plc ls l c ∧ 1 ≤ nn
  rotate_left
  · by_cases hp : Plc ls l c
    · have hk : ¬ 1 ≤ nn := fun hh => hpk ⟨hp, hh⟩
      have hr : sbR ls l c nn = R.no := ifm_no fun hh => hk hh.2
      rw [hr]
      obtain ⟨X, hX⟩ : ∃ X, X = ((w.alloc (.cells #[.int .i64 l, .int .i64 c] 24)).alloc (.cells #[.int .i64 0, .int .i64 0, .int .i64 0, .bool false, .int .i64 0] 32)) := ⟨_, rfl⟩
      have hT : Two w X l c := by rw [hX]; exact Two.new w l c
      have HX := Lib.hid hX
      have h1 := inside_any a n c' ls l c X (SrcV.below h hT.below) hs
      rw [decide_eq_true hp] at h1
      have dn1 : decide (nn < 1) = true := decide_eq_true (by omega)
      have p0 := hT.pos.c0
      have p1 := hT.pos.c1
      have m0 := hT.mv.c0
      have m1 := hT.mv.c1
      have m2 := hT.mv.c2
      have m3 := hT.mv.c3
      have m4 := hT.mv.c4
      have z := hT.mv.z
      clear hr hX hp hk h hpk
      go_enter Try.func24, Try.ntmps24
      go_wp2_with fail
      rw [← HX.out]
      refine h1.mono ?_
      rintro e w1 ⟨rfl, hb_w1⟩
      have T1 := hT.on hb_w1
      clear p0 p1 m0 m1 m2 m3 m4 z h1
      have p0 := T1.pos.c0
      have p1 := T1.pos.c1
      have m0 := T1.mv.c0
      have m1 := T1.mv.c1
      have m2 := T1.mv.c2
      have m3 := T1.mv.c3
      have m4 := T1.mv.c4
      have z := T1.mv.z
      go_wp2
      obtain ⟨hg, hb⟩ := T1.ret 0 0 0 0 false
      exact ret_mv (r := R.no) (g := w.heap.size + 1) rfl rfl rfl rfl hg ⟨rfl, hb⟩
    · have hr : sbR ls l c nn = R.no := ifm_no fun hh => hp hh.1
      rw [hr]
      obtain ⟨X, hX⟩ : ∃ X, X = ((w.alloc (.cells #[.int .i64 l, .int .i64 c] 24)).alloc (.cells #[.int .i64 0, .int .i64 0, .int .i64 0, .bool false, .int .i64 0] 32)) := ⟨_, rfl⟩
      have hT : Two w X l c := by rw [hX]; exact Two.new w l c
      have HX := Lib.hid hX
      have h1 := inside_any a n c' ls l c X (SrcV.below h hT.below) hs
      rw [decide_eq_false hp] at h1
      have p0 := hT.pos.c0
      have p1 := hT.pos.c1
      have m0 := hT.mv.c0
      have m1 := hT.mv.c1
      have m2 := hT.mv.c2
      have m3 := hT.mv.c3
      have m4 := hT.mv.c4
      have z := hT.mv.z
      clear hr hX hp h hpk
      go_enter Try.func24, Try.ntmps24
      go_wp2_with fail
      rw [← HX.out]
      refine h1.mono ?_
      rintro e w1 ⟨rfl, hb_w1⟩
      have T1 := hT.on hb_w1
      clear p0 p1 m0 m1 m2 m3 m4 z h1
      have p0 := T1.pos.c0
      have p1 := T1.pos.c1
      have m0 := T1.mv.c0
      have m1 := T1.mv.c1
      have m2 := T1.mv.c2
      have m3 := T1.mv.c3
      have m4 := T1.mv.c4
      have z := T1.mv.z
      go_wp2
      obtain ⟨hg, hb⟩ := T1.ret 0 0 0 0 false
      exact ret_mv (r := R.no) (g := w.heap.size + 1) rfl rfl rfl rfl hg ⟨rfl, hb⟩
  obtain ⟨hp, hk⟩ := hpk
  have hp0 := hp
  obtain ⟨i, k, rfl, rfl, hi, hkk⟩ := hp0.nat
  obtain ⟨m, rfl⟩ : ∃ m : Nat, nn = m := ⟨nn.toNat, by omega⟩
  have hm1 : 1 ≤ m := by omega
  have hr : sbR ls i k m = jmp (nthV (bef (sen ls) (i, k)).reverse m) := ifm_yes hp hm1
  rw [hr]
  obtain ⟨i0, hi0, hz0, hz1', hz2'⟩ := info_parts infoP
  have hcap := nthV_cap (l := (bef (sen ls) (i, k)).reverse) m (by
    have h1 := List.length_filter_le (fun x => lp x (i, k)) (sen ls)
    have h2 := sen_tz ls
    rw [List.length_reverse]
    unfold bef
    omega)
  obtain ⟨K, hK⟩ : ∃ K, K = min m 1073741824 := ⟨_, rfl⟩
  rw [← hK] at hcap
  obtain ⟨r, hrr⟩ : ∃ r, r = jmp (nthV (bef (sen ls) (i, k)).reverse K) := ⟨_, rfl⟩
  rw [← hcap, ← hrr]
  have hct : ∀ W, Calls Try.prog 27 #[.int .i64 m] W fun e w' => e = .returned (.int .i64 (K : Int)) ∧ W = w' := fun W => by
    have := counted_any m W
    rw [show min (m : Int) 1073741824 = (K : Int) by omega] at this
    exact this
  have hK1 : 1 ≤ K := by omega
  have hK2 : K ≤ 1073741824 := by omega
  have HR := Lib.hid hrr
  clear hrr hK hcap
  obtain ⟨X, hX⟩ : ∃ X, X = ((w.alloc (.cells #[.int .i64 (i : Int), .int .i64 (k : Int)] 24)).alloc (.cells #[.int .i64 0, .int .i64 0, .int .i64 0, .bool false, .int .i64 0] 32)) := ⟨_, rfl⟩
  have hT : Two w X i k := by rw [hX]; exact Two.new w i k
  have HX := Lib.hid hX
  have h1 := inside_any a n c' ls i k X (SrcV.below h hT.below) hs
  rw [decide_eq_true hp] at h1
  have HS := Lib.hid h
  have dn1 : decide ((m : Int) < 1) = false := decide_eq_false (by omega)
  have dn2 : decide (m < 1) = false := decide_eq_false (by omega)
  have p0 := hT.pos.c0
  have p1 := hT.pos.c1
  have m0 := hT.mv.c0
  have m1 := hT.mv.c1
  have m2 := hT.mv.c2
  have m3 := hT.mv.c3
  have m4 := hT.mv.c4
  have z := hT.mv.z
  clear hr hX hp hk hkk h hp0
  obtain ⟨A, hA⟩ : ∃ A, A = w.heap.size := ⟨_, rfl⟩
  have HAw := Lib.hid hA
  refine (callsIn_wide (n := 9)).1 ?_
  refine callsIn_of_wp_marks Try.func24 rfl trivial ?_ rfl
  simp only [Try.ntmps24, List.size_toArray, List.length_cons, List.length_nil, Nat.reduceAdd, Nat.reduceSub, Array.replicate_succ, Array.replicate_zero, List.push_toArray, List.append_toArray, List.nil_append, List.cons_append]
  refine wpIn_mono (Q := noPanic _) ?_ (noPanic_out _)
  gi_wp2_with fail
  refine ⟨trivial, ?_⟩
  rw [← HX.out]
  refine (callsIn_wide.2 h1).mono ?_
  rintro e w1 ⟨rfl, hb_w1⟩
  have T1 := hT.on hb_w1
  clear p0 p1 m0 m1 m2 m3 m4 z h1 HX hT hb_w1
  have HT1 := Lib.hid T1
  clear T1
  gi_wp2_with fail
  refine ⟨trivial, ?_⟩
  obtain ⟨M, hM⟩ : ∃ M, M = w1.heap.size := ⟨_, rfl⟩
  obtain ⟨x2, hx2⟩ : ∃ x, x = w1.alloc (.cells #[.slice none 0 0] 29) := ⟨_, rfl⟩
  have hb2 : Below w1.heap.size w1 x2 := by rw [hx2]; exact (Below.refl _ _).alloc (Nat.le_refl _) _
  have hg2 : x2.heap[M]? = some (.cells #[.slice none 0 0] 29 (0, 0)) := by rw [hx2, hM]; exact heap_alloc_new w1 _
  rw [← hx2, ← hM]
  have T2 := HT1.out.on hb2
  have hsz1 := HT1.out.size
  have hM2 : M < x2.heap.size := by rw [hx2, hM]; simp
  have hMl : 0 < n → ∀ k, blk (.slice a n c') = some k → k ≠ M := fun h0 k hk e => by
    have := SrcV.blkLt HS.out (by omega) k hk
    omega
  clear hx2
  refine (callsIn_wide.2 (sentences_keep a n c' ls M x2 (SrcV.below HS.out T2.below) hs hM2 hMl)).mono ?_
  rintro e Wi ⟨g, lb, rfl, hen, hit, hb3⟩
  have T3 := T2.on hb3
  have hg3 := (hb3.block M hM2).trans hg2
  have hsz3 := hb3.size
  have hso := sen_sorted ls
  have hxl : (sen ls).length ≤ 1000000 := Nat.le_trans (sen_tz ls) (by omega)
  have bi := T3.below
  have f0 := T3.pos
  have f1 := T3.mv
  rw [← hA] at f0 f1
  have hAM : A + 2 ≤ M := by omega
  have hMi : M < Wi.heap.size := by omega
  have hAw : w.heap.size ≤ A := by omega
  have hwA : A ≤ w.heap.size := by omega
  have hsi := True.intro
  rw [← HAw.out]
  clear hb2 hg2 T2 hb3 T3 hM hM2 hsz1 hsz3 hA hMl
  generalize sen ls = xs at *
  gi_wp2_with fail
  refine rangeFunc_iter (by omega) (gf := g) (lb := lb) rfl hen hit
    (fun h1 h2 => h1.trans h2) (fun V l o o' hl ho _ _ => Fr.grown (Fr.refl _ V) (grownBy_putObj' V l o') (fun k e _ => by cases e; exact .inr hl)) (Below.refl _ _) (fun _ => rfl)
    (fun pre V => Bs w Wi A M (Wi.heap.size + 2 + 0) (i, k) pre V)
    (fun c pre V => c = .exit 0 ∧ ∃ p0 x, pre = p0 ++ [x] ∧ lp x (i, k) = false ∧ Bs w Wi A M (Wi.heap.size + 2 + 0) (i, k) p0 V) ?hI ?hIx ⟨Fr.refl _ _, f0, f1, ⟨none, 0, hg3, World.ownsRow_nil _ _ _ _⟩, by simp⟩ ?round ?done ?stop
  case hI => exact fun s A' B row hs hg hr => hs.grown (B := Wi.heap.size) (by omega) (by omega) bi.size hg hr
  case hIx =>
    rintro c s A' B row ⟨h1, p0, x, h2, h3, h4⟩ hg hr
    exact ⟨h1, p0, x, h2, h3, h4.grown (B := Wi.heap.size) (by omega) (by omega) bi.size hg hr⟩
  case stop =>
    rintro D c pre V hD ⟨rest, hpre⟩ hne ⟨rfl, L, x, rfl, hx, hB⟩ hk
    have hbf : bef xs (i, k) = L := bef_stop hso (rest := rest) (by rw [← hpre]; simp) hB.2.2.2.2 hx
    have hLl : L.length ≤ 1000000 := by have := congrArg List.length hpre; simp at this; omega
    have HQ := Lib.hid hB
    clear hB hx hpre hne
    obtain ⟨hF, hp, hm, ⟨b, cc, g1, hrow⟩, hall⟩ := HQ.out
    have y1 : V.cell? ⟨M, 0, none⟩ = some (.slice b L.length cc) := (cell_of_row V _ 0 _ _ _ g1).trans (by simp)
    have hps := Ps.ofOwn hrow
    have hbel := Kn.below bi hF
    have HK := Lib.hid (And.intro hk (And.intro hm hbel))
    have HB := Lib.hid hbf
    obtain ⟨N, hN⟩ : ∃ N, N = L.length := ⟨_, rfl⟩
    rw [← hN] at y1 hps hLl
    by_cases hKL : K ≤ N
    · obtain ⟨bb, oo, rfl, cx, cy, hnc⟩ := hps.read (L.length - K) (by omega)
      have hnv := rev_at (l := L) (k := K) hK1 (by omega)
      obtain ⟨i1, hi1⟩ : ∃ i, i = L.length - K := ⟨_, rfl⟩
      obtain ⟨q, hq⟩ : ∃ q : P2, q = L[L.length - K]'(by omega) := ⟨_, rfl⟩
      rw [← hq] at hnv
      have hrq : r = ⟨q.1, q.2, 0, true, -1, true⟩ := by rw [HR.out, HB.out, hnv]; rfl
      have HRQ := Lib.hid hrq
      rw [← hq, ← hi1] at cx cy
      have hw : IntKind.i64.wrap ((N : Int) - K) = (i1 : Int) := by rw [wrap_id (by omega) (by omega)]; omega
      have hil : i1 < N := by omega
      have dK : decide (N < K) = false := decide_eq_false (by omega)
      have hj := jump_any q.1 q.2 V
      clear hF hp hm g1 hrow hall hps hbel hk hi1 hnv hq hbf HQ hKL hsi hrq hN
      gi_wp2_with fail
      refine ⟨trivial, ?_⟩
      refine (callsIn_wide.2 (hct _)).mono ?_
      rintro e w' ⟨rfl, rfl⟩
      gi_wp2_with fail
      refine ⟨trivial, ?_⟩
      refine (callsIn_wide.2 hj).mono ?_
      rintro e V9 ⟨rfl, hb9⟩
      obtain ⟨hk, hm, hbel⟩ := HK.out
      have hk9 := (hb9.block D (Array.getElem?_eq_some_iff.1 hk).1).trans hk
      have hm9 := hm.below hb9 hm.lt
      have m0 := hm9.c0
      have m1 := hm9.c1
      have m2 := hm9.c2
      have m3 := hm9.c3
      have m4 := hm9.c4
      have z := hm9.z
      have H9 := Lib.hid (And.intro hk9 (And.intro hm9 (below_on hbel hb9)))
      clear hk hm hbel hk9 hm9 hb9 hj hct y1 cx cy
      gi_wp2
      obtain ⟨hk9, hm9, hbel9⟩ := H9.out
      have e1 := hm9.put q.1 q.2 0 (-1) true
      have e3 : (put5 V9 (A + 1) q.1 q.2 0 true (-1)).heap[D]? = some (.deferred (some [])) := (put5_other (by omega)).trans hk9
      have e4 := put5_below hbel9 (g := A + 1) (by omega) q.1 q.2 0 (-1) true
      refine ⟨by simp, .inl ⟨_, _, rfl, run_takeDeferred e3, ?_⟩⟩
      refine ⟨_, Mv.results_cell_tmp rfl _ _ (A + 1) _ _ _ _ _ rfl ((World.putObj_heap_other (by omega)).trans e1) rfl Try.underlying32 rfl (by kernel_rfl), ?_, ?_⟩
      · rw [HRQ.out]; rfl
      · exact e4.grown (grownBy_putObj' _ D _) e4.size (fun k e => by cases e; omega)
    · have hnv := rev_no (l := L) (k := K) (by omega)
      have hrq : r = R.no := by rw [HR.out, HB.out, hnv]; rfl
      have HRQ := Lib.hid hrq
      have dK : decide (N < K) = true := decide_eq_true (by omega)
      have m0 := hm.c0
      have m1 := hm.c1
      have m2 := hm.c2
      have m3 := hm.c3
      have m4 := hm.c4
      have z := hm.z
      clear hF hp hm g1 hrow hall hps hbel hk hnv hbf HQ hKL hsi hrq hN
      gi_wp2_with fail
      refine ⟨trivial, ?_⟩
      refine (callsIn_wide.2 (hct _)).mono ?_
      rintro e w' ⟨rfl, rfl⟩
      clear hct
      gi_wp2
      obtain ⟨hk9, hm9, hbel9⟩ := HK.out
      have e1 := hm9.put 0 0 0 0 false
      have e3 : (put5 V (A + 1) 0 0 0 false 0).heap[D]? = some (.deferred (some [])) := (put5_other (by omega)).trans hk9
      have e4 := put5_below hbel9 (g := A + 1) (by omega) 0 0 0 0 false
      refine ⟨by simp, .inl ⟨_, _, rfl, run_takeDeferred e3, ?_⟩⟩
      refine ⟨_, Mv.results_cell_tmp rfl _ _ (A + 1) _ _ _ _ _ rfl ((World.putObj_heap_other (by omega)).trans e1) rfl Try.underlying32 rfl (by kernel_rfl), ?_, ?_⟩
      · rw [HRQ.out]; rfl
      · exact e4.grown (grownBy_putObj' _ D _) e4.size (fun k e => by cases e; omega)
  case done =>
    rintro D V hD hB hk
    obtain ⟨L, hL⟩ : ∃ L, L = xs := ⟨_, rfl⟩
    rw [← hL] at hB
    have hbf : bef xs (i, k) = L := by rw [hL] at hB ⊢; exact bef_all hB.2.2.2.2
    have hLl : L.length ≤ 1000000 := by rw [hL]; exact hxl
    have HQ := Lib.hid hB
    clear hB hL
    obtain ⟨hF, hp, hm, ⟨b, cc, g1, hrow⟩, hall⟩ := HQ.out
    have y1 : V.cell? ⟨M, 0, none⟩ = some (.slice b L.length cc) := (cell_of_row V _ 0 _ _ _ g1).trans (by simp)
    have hps := Ps.ofOwn hrow
    have hbel := Kn.below bi hF
    have HK := Lib.hid (And.intro hk (And.intro hm hbel))
    have HB := Lib.hid hbf
    obtain ⟨N, hN⟩ : ∃ N, N = L.length := ⟨_, rfl⟩
    rw [← hN] at y1 hps hLl
    by_cases hKL : K ≤ N
    · obtain ⟨bb, oo, rfl, cx, cy, hnc⟩ := hps.read (L.length - K) (by omega)
      have hnv := rev_at (l := L) (k := K) hK1 (by omega)
      obtain ⟨i1, hi1⟩ : ∃ i, i = L.length - K := ⟨_, rfl⟩
      obtain ⟨q, hq⟩ : ∃ q : P2, q = L[L.length - K]'(by omega) := ⟨_, rfl⟩
      rw [← hq] at hnv
      have hrq : r = ⟨q.1, q.2, 0, true, -1, true⟩ := by rw [HR.out, HB.out, hnv]; rfl
      have HRQ := Lib.hid hrq
      rw [← hq, ← hi1] at cx cy
      have hw : IntKind.i64.wrap ((N : Int) - K) = (i1 : Int) := by rw [wrap_id (by omega) (by omega)]; omega
      have hil : i1 < N := by omega
      have dK : decide (N < K) = false := decide_eq_false (by omega)
      have hj := jump_any q.1 q.2 V
      clear hF hp hm g1 hrow hall hps hbel hk hi1 hnv hq hbf HQ hKL hsi hrq hN
      gi_wp2_with fail
      refine ⟨trivial, ?_⟩
      refine (callsIn_wide.2 (hct _)).mono ?_
      rintro e w' ⟨rfl, rfl⟩
      gi_wp2_with fail
      refine ⟨trivial, ?_⟩
      refine (callsIn_wide.2 hj).mono ?_
      rintro e V9 ⟨rfl, hb9⟩
      obtain ⟨hk, hm, hbel⟩ := HK.out
      have hk9 := (hb9.block D (Array.getElem?_eq_some_iff.1 hk).1).trans hk
      have hm9 := hm.below hb9 hm.lt
      have m0 := hm9.c0
      have m1 := hm9.c1
      have m2 := hm9.c2
      have m3 := hm9.c3
      have m4 := hm9.c4
      have z := hm9.z
      have H9 := Lib.hid (And.intro hk9 (And.intro hm9 (below_on hbel hb9)))
      clear hk hm hbel hk9 hm9 hb9 hj hct y1 cx cy
      gi_wp2
      obtain ⟨hk9, hm9, hbel9⟩ := H9.out
      have e1 := hm9.put q.1 q.2 0 (-1) true
      have e3 : (put5 V9 (A + 1) q.1 q.2 0 true (-1)).heap[D]? = some (.deferred (some [])) := (put5_other (by omega)).trans hk9
      have e4 := put5_below hbel9 (g := A + 1) (by omega) q.1 q.2 0 (-1) true
      refine ⟨by simp, .inl ⟨_, _, rfl, run_takeDeferred e3, ?_⟩⟩
      refine ⟨_, Mv.results_cell_tmp rfl _ _ (A + 1) _ _ _ _ _ rfl ((World.putObj_heap_other (by omega)).trans e1) rfl Try.underlying32 rfl (by kernel_rfl), ?_, ?_⟩
      · rw [HRQ.out]; rfl
      · exact e4.grown (grownBy_putObj' _ D _) e4.size (fun k e => by cases e; omega)
    · have hnv := rev_no (l := L) (k := K) (by omega)
      have hrq : r = R.no := by rw [HR.out, HB.out, hnv]; rfl
      have HRQ := Lib.hid hrq
      have dK : decide (N < K) = true := decide_eq_true (by omega)
      have m0 := hm.c0
      have m1 := hm.c1
      have m2 := hm.c2
      have m3 := hm.c3
      have m4 := hm.c4
      have z := hm.z
      clear hF hp hm g1 hrow hall hps hbel hk hnv hbf HQ hKL hsi hrq hN
      gi_wp2_with fail
      refine ⟨trivial, ?_⟩
      refine (callsIn_wide.2 (hct _)).mono ?_
      rintro e w' ⟨rfl, rfl⟩
      clear hct
      gi_wp2
      obtain ⟨hk9, hm9, hbel9⟩ := HK.out
      have e1 := hm9.put 0 0 0 0 false
      have e3 : (put5 V (A + 1) 0 0 0 false 0).heap[D]? = some (.deferred (some [])) := (put5_other (by omega)).trans hk9
      have e4 := put5_below hbel9 (g := A + 1) (by omega) 0 0 0 0 false
      refine ⟨by simp, .inl ⟨_, _, rfl, run_takeDeferred e3, ?_⟩⟩
      refine ⟨_, Mv.results_cell_tmp rfl _ _ (A + 1) _ _ _ _ _ rfl ((World.putObj_heap_other (by omega)).trans e1) rfl Try.underlying32 rfl (by kernel_rfl), ?_, ?_⟩
      · rw [HRQ.out]; rfl
      · exact e4.grown (grownBy_putObj' _ D _) e4.size (fun k e => by cases e; omega)
  case round =>
    rintro l' pre x V0 ⟨rest, hpr⟩ hsz0 hi0
    dsimp only [encp]
    have HI0 := Lib.hid hi0
    have hpl : pre.length ≤ 1000000 := by have := congrArg List.length hpr; simp at this; omega
    clear hi0
    gi_wp2
    refine ⟨(Keep.refl _ _ _).alloc _ hsz0, (Fr.refl _ _).alloc _, HI0.out.below ((Below.refl _ V0).alloc (Nat.le_refl _) _), ?_⟩
    rintro V hgr hl - hszV hB
    obtain ⟨QB, hQB⟩ : ∃ QB, QB = V0.heap.size := ⟨_, rfl⟩
    have gq : PosAt V QB x.1 x.2 := by
      rw [hQB]
      exact (hgr.block _ (by simp) (by intro e; injection e with e; omega)).trans (heap_alloc_new V0 _)
    rw [← hQB]
    have hQM : M + 1 ≤ QB := by omega
    have p0 := hB.2.1.c0
    have p1 := hB.2.1.c1
    have q0 := gq.c0
    have q1 := gq.c1
    have hls := So.less_any x.1 x.2 i k V
    have HV := Lib.hid (And.intro hB gq)
    clear hgr hl hB gq hQB HI0 hsi
    cases hlp : lp x (i, k)
    · rw [show So.lt x.1 x.2 i k = false from hlp] at hls
      gi_wp2_with fail
      refine ⟨trivial, ?_⟩
      refine (CallsIn.inRound l' (callsIn_wide.2 hls)).mono ?_
      rintro e V2 ⟨rfl, hb2⟩
      clear hls p0 p1 q0 q1
      gi_wp2
      refine ⟨Keep.ofFr (Fr.ofBelow hb2 (fun _ => False)) hszV (fun k e => e.elim), rfl, pre, x, rfl, hlp, HV.out.1.below hb2⟩
    · rw [show So.lt x.1 x.2 i k = true from hlp] at hls
      gi_wp2_with fail
      refine ⟨trivial, ?_⟩
      refine (CallsIn.inRound l' (callsIn_wide.2 hls)).mono ?_
      rintro e V2 ⟨rfl, hb2⟩
      clear hls p0 p1 q0 q1
      have hB2 := HV.out.1.below hb2
      have hq2 := HV.out.2.below hb2 HV.out.2.lt
      have hk2 : Keep Wi.heap.size (Wi.heap.size + 2 + 0) V V2 := Keep.ofFr (Fr.ofBelow hb2 (fun _ => False)) hszV (fun k e => e.elim)
      have hsz2 := hk2.size
      obtain ⟨b, cc, g1, hrow⟩ := hB2.2.2.2.1
      have y2 : V2.cell? ⟨M, 0, none⟩ = some (.slice b pre.length cc) := (cell_of_row V2 _ 0 _ _ _ g1).trans (by simp)
      have q2 := hq2.c0
      have q3 := hq2.c1
      have hrow3 := ownsRow_fr hrow ((Fr.refl (fun _ => False) V2).alloc (.cells #[.int .i64 x.1, .int .i64 x.2] EP)) (by simp)
      have hob : ∀ g, (Value.slice b pre.length cc).ownBlock = some g → Wi.heap.size + 2 + 0 ≤ g := fun g hg => (hrow.lt g hg).1
      have hst : ∀ V4, (V2.alloc (.cells #[.int .i64 x.1, .int .i64 x.2] EP)).grownBy V4 (Value.slice b pre.length cc).ownBlock → V4.heap[M]? = some (.cells #[.slice b pre.length cc] 29 (0, 0)) := fun V4 hg4 =>
        (hg4.block (M) (by have := (Array.getElem?_eq_some_iff.1 g1).1; simp; omega) (by intro e; have := hob _ e.symm; omega)).trans ((Below.heap_alloc _ _ _ (by have := (Array.getElem?_eq_some_iff.1 g1).1; exact this)).trans g1)
      have HO3 := Lib.hid hob
      have HST := Lib.hid hst
      have HR3 := Lib.hid hrow3
      have HS3 := Lib.hid (SrcV.pos V2 x.1 x.2)
      have HP := Lib.hid (And.intro hB2 (And.intro hk2 (And.intro hb2 hlp)))
      have hszz : Wi.heap.size + 2 + 0 ≤ V2.heap.size + 1 := by omega
      clear hB2 hk2 hb2 g1 hrow hrow3 hob hst hq2 hlp
      gi_wp2_with (gi_at_builtin; go_must (refine wpListIn_append_srcv _ rfl _ _ 29 rfl (Wi.heap.size + 2 + 0) EP i0 (.agg #[.int .i64 0, .int .i64 0]) 2 16 underP hi0 hz0 hz1' hz2' rfl (by decide) (.slice b pre.length cc) pre.length (flat pre) rfl HR3.out (.slice (some ⟨V2.heap.size, 0, none⟩) 1 1) 1 [.int .i64 x.1, .int .i64 x.2] rfl HS3.out (by simp only [maxLen]; omega) (by omega) (by simp; omega) ?_); intro ob oc V4 hown hg hnr; have y4 : V4.cell? ⟨M, 0, none⟩ = some (.slice b pre.length cc) := (cell_of_row V4 _ 0 _ _ _ (HST.out V4 hg)).trans (by simp); have z4 : V4.frozen? ⟨M, 0, none⟩ = false := frozen_of_row V4 _ 0 _ _ (HST.out V4 hg); have HO := Lib.hid (And.intro hown hg); clear hown hg hnr)
      obtain ⟨hown, hg⟩ := HO.out
      obtain ⟨hB2, hk2, hb2, hlp⟩ := HP.out
      have g4 := HST.out V4 hg
      have f4 : Fr (fun k => k = M ∨ (Value.slice b pre.length cc).ownBlock = some k) V2 V4 := Fr.grown ((Fr.refl _ V2).alloc _) hg (fun k e _ => .inr e)
      have f7 := f4.setCell (p := ⟨M, 0, none⟩) (fun _ => .inl rfl) (.slice ob (pre.length + 1) oc)
      have k7 : Kn w V2 (V4.setCell ⟨M, 0, none⟩ (.slice ob (pre.length + 1) oc)) := f7.mono (fun i _ e => by
        show w.heap.size ≤ i
        rcases e with e | e
        · omega
        · have := HO3.out i e; omega)
      have k8 : Fr (fun k => k = M ∨ Wi.heap.size ≤ k) V2 (V4.setCell ⟨M, 0, none⟩ (.slice ob (pre.length + 1) oc)) := f7.mono (fun i _ e => by
        rcases e with e | e
        · exact .inl e
        · have := HO3.out i e; exact .inr (by omega))
      have key : ∀ k, k < M → k < V2.heap.size → (V4.setCell ⟨M, 0, none⟩ (.slice ob (pre.length + 1) oc)).heap[k]? = V2.heap[k]? := fun k hk hk2 => f7.block k hk2 (fun e => by
        rcases e with e | e
        · omega
        · have := HO3.out k e; omega)
      have hll : (pre ++ [x]).length = pre.length + 1 := by simp
      refine ⟨hk2.trans (Keep.ofFr f7 (by omega) (fun i e => by
        rcases e with e | e
        · exact .inl (by omega)
        · exact .inr (HO3.out i e))), (Fr.ofBelow hb2 _).trans k8, hB2.1.trans k7, (key _ (by omega) hB2.2.1.lt).trans hB2.2.1, (key _ (by omega) hB2.2.2.1.lt).trans hB2.2.2.1, ⟨ob, oc, ?_, ?_⟩, ?_⟩
      · rw [hll]
        exact (heap_setCell_same V4 (M) 0 _ _ _ g4).trans (by simp)
      · rw [hll, flat_append, flat_one]
        exact ownsRow_fr hown ((Fr.refl (fun k => k = M) V4).setCell (p := ⟨M, 0, none⟩) (fun _ => rfl) _) (fun i hi e => by have := (hown.lt i hi).1; omega)
      · intro q hq
        rcases List.mem_append.1 hq with hq | hq
        · exact hB2.2.2.2.2 q hq
        · simp only [List.mem_singleton] at hq
          rw [hq]; exact hlp

end Go.Proofs.Ytpdbfdhfonfbeaa.Pa
