import Derived.Test.YtnngcminomooeaaXm
import Derived.Test.YtnngcminomooeaaXb
import Derived.Test.YtnngcminomooeaaUk
import Derived.Test.YtnngcminomooeaaTw
/-
  Package paraobj: where a sentence begins, and the next (sentenceAt).
-/
set_option linter.unusedVariables false
set_option linter.unusedSimpArgs false
set_option maxRecDepth 100000
namespace Go.Proofs.Ytnngcminomooeaa.Po
open Go Go.RowKit Go.Proofs.Ytnngcminomooeaa.Vk Go.Proofs.Ytnngcminomooeaa.Str Go.Proofs.Ytnngcminomooeaa.Ln Go.Proofs.Ytnngcminomooeaa.Cl Go.Proofs.Ytnngcminomooeaa.Mv Go.Proofs.Ytnngcminomooeaa.Wd Go.Proofs.Ytnngcminomooeaa.Pa Go.Shelf
open Go.Proofs.Ytnngcminomooeaa.Wo (On rgv)
attribute [local go_sem] Oper.semAt_some

/-- para.Sentences, where the caller's own blocks M may be written between. -/
theorem Sentences_keep (a : Option Addr) (n c : Nat) (ls : List ByteArray) (M : Nat → Prop) (w : World) (h : Ss w a n c ls) (hs : ∀ s ∈ ls, s.size ≤ 140737488355328) (hn : n ≤ 1000000) (hM : ∀ k, M k → k < w.heap.size) : Calls Try.prog 37 #[.slice a n c] w fun e w' =>
    ∃ g lb, e = .returned (.func (.func g) #[] lb) ∧ (∀ args w', (callFunc g args).run Try.prog w' = .ok (.enter g args) w') ∧ Iter Try.prog g lb encp 0 (Fr (fun k => M k ∨ w'.heap.size ≤ k)) (sen ls) w' ∧ Below w.heap.size w w' := by
  have h1 := clone_new a n c ls w h hn
  go_enter Try.func37, Try.ntmps37
  go_wp2_with fail
  refine h1.mono ?_
  rintro e w1 ⟨b, cc, rfl, hs1, hb1, hk⟩
  have h2 := sentences_new b n cc w1
  have HB := Lib.hid (And.intro hs1 (And.intro hb1 hk))
  clear h1 hs1 hb1 h hk
  go_wp2_with fail
  refine h2.mono ?_
  rintro e w2 ⟨rfl, hw2⟩
  have HW := Lib.hid hw2
  clear h2 hw2
  go_wp2
  go_ret
  obtain ⟨hs1, hb1, hk⟩ := HB.out
  have hw2 := HW.out
  subst hw2
  have hb2 : Below w1.heap.size w1 (w1.alloc (.cells #[.slice b n cc] 22)) := (Below.refl _ w1).alloc (Nat.le_refl _) _
  refine ⟨_, _, rfl, enters_of Try.func48 (by kernel_rfl) rfl, ?_, below_on hb1 hb2⟩
  have hz1 := hb1.size
  refine sentences_iter _ _ _ (SrcV.below hs1 hb2) hs ?_ ?_ ?_
  · exact (cell_of_row _ _ 0 _ _ _ (heap_alloc_new w1 _)).trans (by simp)
  · rintro (hh | hh)
    · have := hM _ hh; omega
    · simp at hh; omega
  · intro h0 k e hh
    have h3 := SrcV.blkLt hs1 (by omega) k e
    have h4 := hk k e
    rcases hh with hh | hh
    · have := hM _ hh; omega
    · simp at hh; omega

theorem results_ppb {fn : Func} {p q r : Tmp} (h : fn.results = #[.cell p 36, .cell q 36, .cell r 4]) (tmps : Array Value) (w : World) (g g' g2 : Nat) (l c l' c' : Int) (ok : Bool)
    (hp : tmps.getD p undef = .pointer (some ⟨g, 0, none⟩)) (hq : tmps.getD q undef = .pointer (some ⟨g', 0, none⟩)) (hr : tmps.getD r undef = .pointer (some ⟨g2, 0, none⟩)) (hg : PosAt w g l c) (hg' : PosAt w g' l' c') (hc : w.cell? ⟨g2, 0, none⟩ = some (.bool ok)) :
    (results fn tmps).run Try.prog w = .ok (.tuple #[.agg #[.int .i64 l, .int .i64 c], .agg #[.int .i64 l', .int .i64 c'], .bool ok]) w := by
  have hp' : tmps[p]?.getD undef = .pointer (some ⟨g, 0, none⟩) := by simpa using hp
  have hq' : tmps[q]?.getD undef = .pointer (some ⟨g', 0, none⟩) := by simpa using hq
  have hr' : tmps[r]?.getD undef = .pointer (some ⟨g2, 0, none⟩) := by simpa using hr
  have h0 := hg.c0
  have h1 := hg.c1
  have h2 := hg'.c0
  have h3 := hg'.c1
  clear hg hg'
  simp only [results, h]
  go_simp
theorem run_store_bool {W : World} {g : Nat} {o o' : Bool} (h : W.heap[g]? = some (.cells #[.bool o] 4 (0, 0))) :
    (do Instr.storeAt 4 (.pointer (some ⟨g, 0, none⟩)) (.bool o'); pure Next.skip : Sem Next).run Try.prog W = .ok .skip (W.setCell ⟨g, 0, none⟩ (.bool o')) := by
  have m0 : W.cell? ⟨g, 0, none⟩ = some (.bool o) := (cell_of_row W _ 0 _ _ _ h).trans (by simp)
  have z := fun k => frozen_of_row W g k _ _ h
  go_simp
def setP (V : World) (g : Nat) (l c : Int) : World := (V.setCell ⟨g, 0, none⟩ (.int .i64 l)).setCell ⟨g, 1, none⟩ (.int .i64 c)
theorem setP_fr (V : World) (g : Nat) (l c : Int) : Fr (fun k => k = g) V (setP V g l c) := ((Fr.refl (fun k => k = g) V).setCell (p := ⟨g, 0, none⟩) (fun _ => rfl) _).setCell (p := ⟨g, 1, none⟩) (fun _ => rfl) _
theorem setP_at {V : World} {g : Nat} {l c : Int} (h : PosAt V g l c) (l' c' : Int) : PosAt (setP V g l' c') g l' c' := So.set2 h
theorem setP_other {V : World} {g g' : Nat} {l c : Int} (h : g' ≠ g) : (setP V g l c).heap[g']? = V.heap[g']? := So.set2_other h
theorem setP_same {V : World} {g : Nat} {l c : Int} (h : PosAt V g l c) (S : Nat → Prop) : Fr S V (setP V g l c) := by
  have h1 := setP_fr V g l c
  refine ⟨h1.os, h1.tape, h1.output, h1.size, fun k hk _ => ?_⟩
  by_cases e : k = g
  · subst e; exact (setP_at h l c).trans h.symm
  · exact setP_other e
/-- What stands between the rounds: the place at A, the answer's three variables behind it. -/
structure Sq (w Wi : World) (A : Nat) (p f t : P2) (o : Bool) (V : World) : Prop where
  kn : Kn w Wi V
  pos : PosAt V A p.1 p.2
  fr : PosAt V (A + 1) f.1 f.2
  tt : PosAt V (A + 2) t.1 t.2
  ok : V.heap[A + 3]? = some (.cells #[.bool o] 4 (0, 0))
section
variable {w Wi V V' : World} {A : Nat} {p f t : P2} {o : Bool}
theorem hlt {V : World} {k : Nat} {o : Obj} (h : V.heap[k]? = some o) : k < V.heap.size := (Array.getElem?_eq_some_iff.1 h).1
theorem Sq.below (h : Sq w Wi A p f t o V) (hb : Below V.heap.size V V') : Sq w Wi A p f t o V' :=
  ⟨h.kn.trans (Fr.ofBelow hb _), h.pos.below hb h.pos.lt, h.fr.below hb h.fr.lt, h.tt.below hb h.tt.lt, (hb.block _ (hlt h.ok)).trans h.ok⟩
theorem Sq.grown {B : Nat} {row : Option Nat} (h : Sq w Wi A p f t o V) (hA : A + 4 ≤ B) (hB : w.heap.size ≤ B) (hg : V.grownBy V' row) (hr : ∀ r, row = some r → B ≤ r ∧ ∃ o : Obj, V.heap[r]? = some o ∧ o.isCells = false) : Sq w Wi A p f t o V' := by
  have hk : ∀ k, k < B → k < V.heap.size → V'.heap[k]? = V.heap[k]? := fun k hk hkA => hg.block k hkA (fun e => by have := (hr _ e.symm).1; omega)
  exact ⟨own_kn (α := P2) hB [] V V' row h.kn hg hr, (hk _ (by omega) h.pos.lt).trans h.pos, (hk _ (by omega) h.fr.lt).trans h.fr, (hk _ (by omega) h.tt.lt).trans h.tt, (hk _ (by omega) (hlt h.ok)).trans h.ok⟩
theorem Sq.setF (h : Sq w Wi A p f t o V) (hA : w.heap.size ≤ A) (x : P2) : Sq w Wi A p x t o (setP V (A + 1) x.1 x.2) :=
  ⟨h.kn.trans ((setP_fr _ _ _ _).mono (fun k _ e => by show w.heap.size ≤ k; omega)), (setP_other (by omega)).trans h.pos, setP_at h.fr _ _, (setP_other (by omega)).trans h.tt, (setP_other (by omega)).trans h.ok⟩
theorem Sq.setT (h : Sq w Wi A p f t o V) (hA : w.heap.size ≤ A) (x : P2) : Sq w Wi A p f x o (setP V (A + 2) x.1 x.2) :=
  ⟨h.kn.trans ((setP_fr _ _ _ _).mono (fun k _ e => by show w.heap.size ≤ k; omega)), (setP_other (by omega)).trans h.pos, (setP_other (by omega)).trans h.fr, setP_at h.tt _ _, (setP_other (by omega)).trans h.ok⟩
theorem Sq.setO (h : Sq w Wi A p f t o V) (hA : w.heap.size ≤ A) (b : Bool) : Sq w Wi A p f t b (V.setCell ⟨A + 3, 0, none⟩ (.bool b)) :=
  ⟨h.kn.setCell (p := ⟨A + 3, 0, none⟩) (fun _ => by show w.heap.size ≤ A + 3; omega) _, h.pos.other (by omega), h.fr.other (by omega), h.tt.other (by omega), (heap_setCell_same _ (A + 3) 0 _ _ _ h.ok).trans (by simp)⟩
theorem Sq.ret (h : Sq w Wi A p f t o V) (hA : w.heap.size ≤ A) {D : Nat} (hD : A + 4 ≤ D) (O : Obj) : PosAt (V.putObj D O) (A + 1) f.1 f.2 ∧ PosAt (V.putObj D O) (A + 2) t.1 t.2 ∧ (V.putObj D O).cell? ⟨A + 3, 0, none⟩ = some (.bool o) :=
  ⟨(World.putObj_heap_other (by omega)).trans h.fr, (World.putObj_heap_other (by omega)).trans h.tt, (cell_of_row _ _ 0 _ _ _ ((World.putObj_heap_other (by omega)).trans h.ok)).trans (by simp)⟩
end

set_option maxHeartbeats 16000000 in
theorem sentenceAt_any (a : Option Addr) (n c' : Nat) (ls : List ByteArray) (p : P2) (w : World) (h : Ss w a n c' ls) (hs : ∀ s ∈ ls, s.size ≤ 140737488355328) (hn6 : n ≤ 1000000) (hn0 : 0 < n) :
    Calls Try.prog 31 #[.slice a n c', .agg #[.int .i64 p.1, .int .i64 p.2]] w fun e w' =>
      e = .returned (.tuple #[.agg #[.int .i64 (sfr (sen ls) p).1, .int .i64 (sfr (sen ls) p).2], .agg #[.int .i64 (sto ls (sen ls) p).1, .int .i64 (sto ls (sen ls) p).2], .bool (sok (sen ls) p)]) ∧ Below w.heap.size w w' := by
  have hlen := h.length
  obtain ⟨r1, hr1⟩ : ∃ r, r = sfr (sen ls) p := ⟨_, rfl⟩
  obtain ⟨r2, hr2⟩ : ∃ r, r = sto ls (sen ls) p := ⟨_, rfl⟩
  obtain ⟨r3, hr3⟩ : ∃ r, r = sok (sen ls) p := ⟨_, rfl⟩
  rw [← hr1, ← hr2, ← hr3]
  have HR := Lib.hid (And.intro hr1 (And.intro hr2 hr3))
  clear hr1 hr2 hr3
  have hmx : Try.prog.follows .mixedOrders = true := by kernel_rfl
  have HMX := Lib.hid hmx
  obtain ⟨g0, o0, rfl, hcx, hnc, _⟩ := h.read (n - 1) (by omega)
  rw [← lineAt_get (ls := ls) (k := n - 1) (by omega)] at hcx
  obtain ⟨N1, hN1⟩ : ∃ N1, N1 = n - 1 := ⟨_, rfl⟩
  have hst6 := hs (lineAt ls N1) (by rw [lineAt_get (by omega)]; exact List.getElem_mem _)
  rw [← hN1] at hcx
  have hep : eP ls = (N1, (lineAt ls N1).size) := by unfold eP; rw [show ls.length - 1 = N1 by omega]
  have hwN : IntKind.i64.wrap ((n : Int) - 1) = (N1 : Int) := by rw [IntKind.wrap_i64]; omega
  have bN : (N1 : Int) < (n : Int) := by omega
  have bN2 : N1 < n := by omega
  have HEP := Lib.hid hep
  generalize hST : lineAt ls N1 = st at *
  clear hN1 hST
  obtain ⟨X, hX⟩ : ∃ X, X = (((w.alloc (.cells #[.int .i64 p.1, .int .i64 p.2] 36)).alloc (.cells #[.int .i64 0, .int .i64 0] 36)).alloc (.cells #[.int .i64 0, .int .i64 0] 36)).alloc (.cells #[.bool false] 4) := ⟨_, rfl⟩
  obtain ⟨hsX, e0, e1, e2, e3, hbX⟩ := So.four_rows w (.cells #[.int .i64 p.1, .int .i64 p.2] 36) (.cells #[.int .i64 0, .int .i64 0] 36) (.cells #[.int .i64 0, .int .i64 0] 36) (.cells #[.bool false] 4)
  rw [← hX] at hsX e0 e1 e2 e3 hbX
  obtain ⟨A, hA⟩ : ∃ A, A = w.heap.size := ⟨_, rfl⟩
  rw [← hA] at e0 e1 e2 e3
  have hAw : w.heap.size ≤ A := by omega
  have hwA : A ≤ w.heap.size := by omega
  have HX := Lib.hid (And.intro hX hA)
  have HS := Lib.hid h
  have hcl := Sentences_keep _ n c' ls (fun k => k = A + 1 ∨ k = A + 2 ∨ k = A + 3) X (SrcV.below h hbX) hs hn6 (fun k e => by omega)
  have hcx := cell_later hbX hcx
  clear hX hA h hs
  refine (callsIn_wide (n := 9)).1 ?_
  refine callsIn_of_wp_marks Try.func31 rfl trivial ?_ rfl
  simp only [Try.ntmps31, List.size_toArray, List.length_cons, List.length_nil, Nat.reduceAdd, Nat.reduceSub, Array.replicate_succ, Array.replicate_zero, List.push_toArray, List.append_toArray, List.nil_append, List.cons_append]
  refine wpIn_mono (Q := noPanic _) ?_ (noPanic_out _)
  gi_wp2_with fail
  refine ⟨trivial, ?_⟩
  rw [← HX.out.1, ← HX.out.2]
  refine (callsIn_wide.2 hcl).mono ?_
  rintro e Wi ⟨g, lb, rfl, hen, hit, hb3⟩
  have bi := hbX.trans (hb3.mono hbX.size)
  have f0 : PosAt Wi A p.1 p.2 := (hb3.block _ (hlt e0)).trans e0
  have f1 : PosAt Wi (A + 1) 0 0 := (hb3.block _ (hlt e1)).trans e1
  have f2 : PosAt Wi (A + 2) 0 0 := (hb3.block _ (hlt e2)).trans e2
  have f3 := (hb3.block _ (hlt e3)).trans e3
  have hcx := cell_later hb3 hcx
  have hAi : A + 4 ≤ Wi.heap.size := hlt f3
  have hcg : ∀ V, Kn w Wi V → V.cell? ⟨g0, o0 + N1, none⟩ = some (.string st) := fun V hV => Fr.cell hV hcx (fun e => by
    have h1 := SrcV.blkLt HS.out (by omega) g0 rfl
    have h2 : w.heap.size ≤ g0 := e
    omega)
  have HC := Lib.hid hcg
  have hsx := sen_sorted ls
  clear hcl hb3 e0 e1 e2 e3 hbX hsX HX hcx hcg
  have HSX := Lib.hid hsx
  clear hsx
  gi_wp2_with fail
  refine rangeFunc_iter (by omega) (gf := g) (lb := lb) rfl hen hit
    (fun h1 h2 => h1.trans h2) (fun V l o o' hl ho _ _ => Fr.grown (Fr.refl _ V) (grownBy_putObj' V l o') (fun k e _ => by cases e; exact .inr hl)) (Below.refl _ _) (fun _ => rfl)
    (fun pre V => Sq w Wi A p (pre.getLastD (0, 0)) (0, 0) (!pre.isEmpty) V ∧ ∀ q ∈ pre, lp p q = false)
    (fun c pre V => c = .ret ∧ ∃ p0 x, pre = p0 ++ [x] ∧ lp p x = true ∧ (∀ q ∈ p0, lp p q = false) ∧ Sq w Wi A p (p0.getLastD (0, 0)) x (!p0.isEmpty) V) ?hI ?hIx ⟨⟨Fr.refl _ _, f0, f1, f2, f3⟩, fun q hq => by cases hq⟩ ?round ?done ?stop
  case hI => exact fun s A' B row hs hg hr => ⟨hs.1.grown (B := Wi.heap.size) hAi bi.size hg hr, hs.2⟩
  case hIx =>
    rintro c s A' B row ⟨h1, p0, x, h3, h4, h5, h6⟩ hg hr
    exact ⟨h1, p0, x, h3, h4, h5, h6.grown (B := Wi.heap.size) hAi bi.size hg hr⟩
  case stop =>
    rintro D c pre V hD ⟨rest, hpre⟩ hne ⟨rfl, p0, x, rfl, hlx, hpl, hQ⟩ hk
    obtain ⟨t1, t2, t3⟩ := s_stop (ls := ls) HSX.out (pre := p0) (rest := rest) (x := x) (by rw [← hpre]; simp) hpl hlx
    have hrq : r1 = p0.getLastD (0, 0) ∧ r2 = x ∧ r3 = !p0.isEmpty := ⟨HR.out.1.trans t1, HR.out.2.1.trans t2, HR.out.2.2.trans t3⟩
    have HRQ := Lib.hid hrq
    have HN := Lib.hid hQ
    clear hQ hrq hpre hne t1 t2 t3
    gi_wp2
    refine ⟨by simp, .inl ⟨_, _, rfl, run_takeDeferred hk, ?_⟩⟩
    obtain ⟨y1, y2, y3⟩ := HN.out.ret hAw (D := D) (by omega) (.deferred none)
    refine ⟨_, results_ppb rfl _ _ (A + 1) (A + 2) (A + 3) _ _ _ _ _ rfl rfl rfl y1 y2 y3, by rw [HRQ.out.1, HRQ.out.2.1, HRQ.out.2.2], ?_⟩
    exact (Kn.below bi HN.out.kn).grown (grownBy_putObj' _ D _) (Kn.below bi HN.out.kn).size (fun k e => by cases e; omega)
  case done =>
    rintro D V hD ⟨hQ, hall⟩ hk
    obtain ⟨t1, t2, t3⟩ := s_done (ls := ls) hall
    have hrq : r1 = (sen ls).getLastD (0, 0) ∧ r2 = eP ls ∧ r3 = !(sen ls).isEmpty := ⟨HR.out.1.trans t1, HR.out.2.1.trans t2, HR.out.2.2.trans t3⟩
    rw [← hrq.1, ← hrq.2.2] at hQ
    have hr2 : r2 = (N1, st.size) := hrq.2.1.trans HEP.out
    have HR2 := Lib.hid hr2
    have c1 := hQ.fr.c0
    have c2 := hQ.fr.c1
    have c3 : V.cell? ⟨A + 3, 0, none⟩ = some (.bool r3) := (cell_of_row V _ 0 _ _ _ hQ.ok).trans (by simp)
    have cs := HC.out V hQ.kn
    have HH := Lib.hid (And.intro hQ hk)
    have hg0 : g0 < w.heap.size := SrcV.blkLt HS.out (by omega) g0 rfl
    have F_1 := fun (C : World → Prop) (hC : Vs.Grows (fun k => k = A + 2) V C) (z : Vs.In C) => hC.cell c1 (by simp only; omega) z
    have F_2 := fun (C : World → Prop) (hC : Vs.Grows (fun k => k = A + 2) V C) (z : Vs.In C) => hC.cell c2 (by simp only; omega) z
    have F_3 := fun (C : World → Prop) (hC : Vs.Grows (fun k => k = A + 2) V C) (z : Vs.In C) => hC.cell c3 (by simp only; omega) z
    have F_4 := fun (C : World → Prop) (hC : Vs.Grows (fun k => k = A + 2) V C) (z : Vs.In C) => hC.cell cs (by simp only; omega) z
    clear hQ hk hrq t1 t2 t3 hall hr2 c1 c2 c3 cs hg0
    gi_wp2_with fail
    refine wpIn_wide.2 ?_
    refine Vs.wp_region_seg (S := fun k => k = A + 2) [0, 1, 2, 3, 4, 5, 6, 7, 8] [(9, 1), (10, 1), (11, 3)] HMX.out (by kernel_rfl) 31 rfl (by kernel_rfl) ?_
    simp only [List.map_cons, List.map_nil, Vs.opOf_succ, Vs.opOf_zero]
    apply Exists.intro
    refine ⟨fun C hC => ?_, ?_⟩
    · haveI hI := hC.one
      have f_1 := F_1 C hC
      have f_2 := F_2 C hC
      have f_3 := F_3 C hC
      have f_4 := F_4 C hC
      repeat (go_big_quiet_step (fail))
      exact wpQuiet_nil rfl
    clear F_1 F_2 F_3 F_4
    refine Vs.wpPath_put rfl ?_
    intro u3 hu3
    have S3 := HH.out.1.below hu3
    refine ⟨setP u3 (A + 1) r1.1 r1.2, rfl, run_store_pos S3.fr, setP_same S3.fr _, ?_⟩
    simp only [Vs.opOf_succ, Vs.opOf_zero, Act.put, List.setIfInBounds_toArray, List.set_cons_zero, List.set_cons_succ]
    refine Vs.wpPath_put rfl ?_
    intro u4 hu4
    have S4 := (S3.setF hAw r1).below hu4
    refine ⟨setP u4 (A + 2) N1 st.size, rfl, run_store_pos S4.tt, (setP_fr _ _ _ _), ?_⟩
    simp only [Vs.opOf_succ, Vs.opOf_zero, Act.put, List.setIfInBounds_toArray, List.set_cons_zero, List.set_cons_succ]
    refine Vs.wpPath_store rfl fun u5 hu5 => ?_
    have S5 := (S4.setT hAw (N1, st.size)).below hu5
    refine ⟨u5.setCell ⟨A + 3, 0, none⟩ (.bool r3), rfl, run_store_bool S5.ok, ?_⟩
    simp only [Vs.opOf_succ, Vs.opOf_zero, Act.put, List.setIfInBounds_toArray, List.set_cons_zero, List.set_cons_succ]
    refine Vs.wpPath_end fun W hW => ?_
    have S6 := (S5.setO hAw r3).below hW
    have f9 : Fr (fun k => A + 1 ≤ k ∧ k ≤ A + 3) V W := (Fr.ofBelow hu3 _).trans (((setP_fr _ _ _ _).mono (fun k _ e => by omega)).trans ((Fr.ofBelow hu4 _).trans (((setP_fr _ _ _ _).mono (fun k _ e => by omega)).trans ((Fr.ofBelow hu5 _).trans (((Fr.refl _ u5).setCell (p := ⟨A + 3, 0, none⟩) (fun _ => by simp) _).trans (Fr.ofBelow hW _))))))
    have hk9 := (f9.block D (hlt HH.out.2) (by omega)).trans HH.out.2
    have H6 := Lib.hid (And.intro S6 hk9)
    clear S3 S4 S5 S6 f9 hu3 hu4 hu5 hW hk9
    gi_wp2
    obtain ⟨hQ, hk⟩ := H6.out
    refine ⟨by simp, .inl ⟨_, _, rfl, run_takeDeferred hk, ?_⟩⟩
    obtain ⟨y1, y2, y3⟩ := hQ.ret hAw (D := D) (by omega) (.deferred none)
    refine ⟨_, results_ppb rfl _ _ (A + 1) (A + 2) (A + 3) _ _ _ _ _ rfl rfl rfl y1 y2 y3, by rw [HR2.out], ?_⟩
    exact (Kn.below bi hQ.kn).grown (grownBy_putObj' _ D _) (Kn.below bi hQ.kn).size (fun k e => by cases e; omega)
  case round =>
    rintro l' pre x V0 ⟨rest, hpr⟩ hsz0 ⟨hS0, hl0⟩
    dsimp only [encp]
    have HI0 := Lib.hid (And.intro hS0 hl0)
    clear hS0 hl0
    gi_wp2
    refine ⟨(Keep.refl _ _ _).alloc _ hsz0, (Fr.refl _ _).alloc _, ⟨HI0.out.1.below ((Below.refl _ V0).alloc (Nat.le_refl _) _), HI0.out.2⟩, ?_⟩
    rintro V hgr hl - hszV ⟨hS, hlK⟩
    obtain ⟨QB, hQB⟩ : ∃ QB, QB = V0.heap.size := ⟨_, rfl⟩
    have gq : PosAt V QB x.1 x.2 := by
      rw [hQB]
      exact (hgr.block _ (by simp) (by intro e; injection e with e; omega)).trans (heap_alloc_new V0 _)
    rw [← hQB]
    have hQM : A + 4 ≤ QB := by omega
    have p0 := hS.pos.c0
    have p1 := hS.pos.c1
    have q0 := gq.c0
    have q1 := gq.c1
    have hls := So.less_any p.1 p.2 x.1 x.2 V
    have HV := Lib.hid (And.intro hS (And.intro hlK gq))
    clear hgr hl hS hlK gq hQB HI0
    cases hlp : lp p x
    · rw [show So.lt p.1 p.2 x.1 x.2 = false from hlp] at hls
      gi_wp2_with fail
      refine ⟨trivial, ?_⟩
      refine (CallsIn.inRound l' (callsIn_wide.2 hls)).mono ?_
      rintro e V2 ⟨rfl, hb2⟩
      have S2 := HV.out.1.below hb2
      have gq2 := HV.out.2.2.below hb2 HV.out.2.2.lt
      clear hls p0 p1 q0 q1
      have q0 := gq2.c0
      have q1 := gq2.c1
      have m0 := S2.fr.c0
      have m1 := S2.fr.c1
      have mz := fun k => frozen_of_row V2 (A + 1) k _ _ S2.fr
      have b0 : V2.cell? ⟨A + 3, 0, none⟩ = some (.bool (!pre.isEmpty)) := (cell_of_row V2 _ 0 _ _ _ S2.ok).trans (by simp)
      have bz := frozen_of_row V2 (A + 3) 0 _ _ S2.ok
      have H2 := Lib.hid (And.intro S2 hb2)
      clear S2 gq2 hb2
      gi_wp2
      obtain ⟨S2, hb2⟩ := H2.out
      have S3 := (S2.setF hAw x).setO hAw true
      have f9 : Fr (fun k => k = A + 1 ∨ k = A + 2 ∨ k = A + 3) V2 ((setP V2 (A + 1) x.1 x.2).setCell ⟨A + 3, 0, none⟩ (.bool true)) := ((setP_fr _ _ _ _).mono (fun k _ e => .inl e)).setCell (p := ⟨A + 3, 0, none⟩) (fun _ => .inr (.inr rfl)) _
      refine ⟨(Keep.ofFr (Fr.ofBelow hb2 (fun _ => False)) hszV (fun k e => e.elim)).trans (Keep.ofFr f9 (by have := hb2.size; omega) (fun k e => .inl (by omega))), (Fr.ofBelow hb2 _).trans (f9.mono (fun k _ e => .inl e)), ?_⟩
      show Sq w Wi A p ((pre ++ [x]).getLastD (0, 0)) (0, 0) (!(pre ++ [x]).isEmpty) _ ∧ ∀ q ∈ pre ++ [x], lp p q = false
      rw [show (pre ++ [x]).getLastD (0, 0) = x by simp, show (!(pre ++ [x]).isEmpty) = true by simp]
      refine ⟨S3, fun q hq => ?_⟩
      rcases List.mem_append.1 hq with hq | hq
      · exact HV.out.2.1 q hq
      · obtain rfl : q = x := by simpa using hq
        exact hlp
    · rw [show So.lt p.1 p.2 x.1 x.2 = true from hlp] at hls
      gi_wp2_with fail
      refine ⟨trivial, ?_⟩
      refine (CallsIn.inRound l' (callsIn_wide.2 hls)).mono ?_
      rintro e V2 ⟨rfl, hb2⟩
      have S2 := HV.out.1.below hb2
      have gq2 := HV.out.2.2.below hb2 HV.out.2.2.lt
      clear hls p0 p1 q0 q1
      obtain ⟨f, hf⟩ : ∃ f : P2, f = pre.getLastD (0, 0) := ⟨_, rfl⟩
      obtain ⟨o, ho⟩ : ∃ o : Bool, o = !pre.isEmpty := ⟨_, rfl⟩
      rw [← hf, ← ho] at S2
      have HFO := Lib.hid (And.intro hf ho)
      have q0 := gq2.c0
      have q1 := gq2.c1
      have m0 := S2.fr.c0
      have m1 := S2.fr.c1
      have b0 : V2.cell? ⟨A + 3, 0, none⟩ = some (.bool o) := (cell_of_row V2 _ 0 _ _ _ S2.ok).trans (by simp)
      have H2 := Lib.hid (And.intro S2 hb2)
      have F_1 := fun (C : World → Prop) (hC : Vs.Grows (fun k => k = A + 2) V2 C) (z : Vs.In C) => hC.cell q0 (by simp only; omega) z
      have F_2 := fun (C : World → Prop) (hC : Vs.Grows (fun k => k = A + 2) V2 C) (z : Vs.In C) => hC.cell q1 (by simp only; omega) z
      have F_3 := fun (C : World → Prop) (hC : Vs.Grows (fun k => k = A + 2) V2 C) (z : Vs.In C) => hC.cell m0 (by simp only; omega) z
      have F_4 := fun (C : World → Prop) (hC : Vs.Grows (fun k => k = A + 2) V2 C) (z : Vs.In C) => hC.cell m1 (by simp only; omega) z
      have F_5 := fun (C : World → Prop) (hC : Vs.Grows (fun k => k = A + 2) V2 C) (z : Vs.In C) => hC.cell b0 (by simp only; omega) z
      clear S2 gq2 hb2 q0 q1 m0 m1 b0 hf ho
      gi_wp2_with fail
      refine Vs.wpIn_round_seg (S := fun k => k = A + 2) [0, 1, 2] [(3, 1), (4, 1), (5, 3)] HMX.out (by kernel_rfl) (by rintro ⟨_, _, h⟩; exact h) (by kernel_rfl) 31 rfl (by kernel_rfl) ?_
      simp only [List.map_cons, List.map_nil, Vs.opOf_succ, Vs.opOf_zero]
      apply Exists.intro
      refine ⟨fun C hC => ?_, ?_⟩
      · haveI hI := hC.one
        have f_1 := F_1 C hC
        have f_2 := F_2 C hC
        have f_3 := F_3 C hC
        have f_4 := F_4 C hC
        have f_5 := F_5 C hC
        repeat (go_big_quiet_step (fail))
        exact wpQuiet_nil rfl
      clear F_1 F_2 F_3 F_4 F_5
      refine Vs.wpPath_put rfl ?_
      intro u3 hu3
      have S3 := H2.out.1.below hu3
      refine ⟨setP u3 (A + 1) f.1 f.2, rfl, run_store_pos S3.fr, setP_same S3.fr _, ?_⟩
      simp only [Vs.opOf_succ, Vs.opOf_zero, Act.put, List.setIfInBounds_toArray, List.set_cons_zero, List.set_cons_succ]
      refine Vs.wpPath_put rfl ?_
      intro u4 hu4
      have S4 := (S3.setF hAw f).below hu4
      refine ⟨setP u4 (A + 2) x.1 x.2, rfl, run_store_pos S4.tt, (setP_fr _ _ _ _), ?_⟩
      simp only [Vs.opOf_succ, Vs.opOf_zero, Act.put, List.setIfInBounds_toArray, List.set_cons_zero, List.set_cons_succ]
      refine Vs.wpPath_store rfl fun u5 hu5 => ?_
      have S5 := (S4.setT hAw x).below hu5
      refine ⟨u5.setCell ⟨A + 3, 0, none⟩ (.bool o), rfl, run_store_bool S5.ok, ?_⟩
      simp only [Vs.opOf_succ, Vs.opOf_zero, Act.put, List.setIfInBounds_toArray, List.set_cons_zero, List.set_cons_succ]
      refine Vs.wpPath_end fun W hW => ?_
      have S6 := (S5.setO hAw o).below hW
      have f9 : Fr (fun k => A + 1 ≤ k ∧ k ≤ A + 3) V2 W := (Fr.ofBelow hu3 _).trans (((setP_fr _ _ _ _).mono (fun k _ e => by omega)).trans ((Fr.ofBelow hu4 _).trans (((setP_fr _ _ _ _).mono (fun k _ e => by omega)).trans ((Fr.ofBelow hu5 _).trans (((Fr.refl _ u5).setCell (p := ⟨A + 3, 0, none⟩) (fun _ => by simp) _).trans (Fr.ofBelow hW _))))))
      have H6 := Lib.hid (And.intro S6 f9)
      clear S3 S4 S5 S6 f9 hu3 hu4 hu5 hW
      gi_wp2
      refine ⟨(Keep.ofFr (Fr.ofBelow H2.out.2 (fun _ => False)) hszV (fun k e => e.elim)).trans (Keep.ofFr H6.out.2 (by have := H2.out.2.size; omega) (fun k e => .inl (by omega))), rfl, pre, x, rfl, hlp, HV.out.2.1, ?_⟩
      rw [← HFO.out.1, ← HFO.out.2]
      exact H6.out.1
end Go.Proofs.Ytnngcminomooeaa.Po
/-
  Package paraobj: the end of a sentence without blanks (withoutBlanks).
-/
set_option linter.unusedVariables false
set_option linter.unusedSimpArgs false
set_option maxRecDepth 100000
namespace Go.Proofs.Ytnngcminomooeaa.Po
open Go Go.RowKit Go.Proofs.Ytnngcminomooeaa.Vk Go.Proofs.Ytnngcminomooeaa.Str Go.Proofs.Ytnngcminomooeaa.Ln Go.Proofs.Ytnngcminomooeaa.Cl Go.Proofs.Ytnngcminomooeaa.Mv Go.Proofs.Ytnngcminomooeaa.Wd Go.Proofs.Ytnngcminomooeaa.Pa Go.Shelf
open Go.Proofs.Ytnngcminomooeaa.So (enr enr_cut enr_length lcell lcell_length lcell_get cells cells_snoc cells_step cells_iter encc Cell)
open Go.Proofs.Ytnngcminomooeaa.Wo (On rgv)
attribute [local go_sem] Oper.semAt_some

/-- Cells: what it makes is new. -/
theorem cells_fresh (a : Option Addr) (n c : Nat) (ls : List ByteArray) (w : World) (h : Ss w a n c ls) (hn : n ≤ 1000000) : Calls Try.prog 39 #[.slice a n c] w fun e w' =>
    ∃ bx ob oc, e = .returned (.func (.func 46) #[] #[.pointer (some ⟨bx, 0, none⟩)]) ∧ w'.cell? ⟨bx, 0, none⟩ = some (.slice ob n oc) ∧ Ss w' ob n oc ls ∧ Below w.heap.size w w' ∧ w.heap.size ≤ bx ∧ bx < w'.heap.size ∧ (∀ k, blk (.slice ob n oc) = some k → w.heap.size ≤ k) := by
  obtain ⟨i0, hi0, hz0, hz1, hz2⟩ := info_parts infoS
  have hlen := h.length
  have HH := Lib.hid h
  clear h
  go_enter Try.func39, Try.ntmps39
  go_wp2_with (at_builtin; go_must (refine append_srcv _ rfl _ _ 22 rfl w.heap.size ES i0 (.string ⟨#[]⟩) 1 16 underS hi0 hz0 hz1 hz2 rfl (by decide) _ 0 [] rfl (World.ownsRow_nil w w.heap.size ES 1) _ n (ls.map .string) rfl HH.out (by simp only [maxLen]; omega) (by omega) (Nat.le_refl _) ?_); intro ob oc w2 hown hg hnr; have HO := Lib.hid (And.intro hown hg); clear hown hg hnr)
  go_ret
  obtain ⟨hown, hg⟩ := HO.out
  simp only [Nat.zero_add, List.nil_append] at hown ⊢
  have hf2 : Fr (fun _ => False) w w2 := (Fr.refl _ w).grown hg (by intro k hk; simp [Value.ownBlock, Act.eval] at hk)
  have hb2 : Below w.heap.size w w2 := hf2.below (Nat.le_refl _) (by simp)
  have hss : Ss w2 ob n oc ls := SrcV.ofOwn hown (one_cells _)
  exact ⟨w2.heap.size, ob, oc, rfl, (cell_of_row _ _ 0 _ _ _ (heap_alloc_new w2 _)).trans (by simp), SrcV.below hss ((Below.refl _ w2).alloc (Nat.le_refl _) _), hb2.alloc hb2.size _, hb2.size, by simp, fun k hk => (hown.lt k (by cases ob <;> exact hk)).1⟩

/-- What stands between the rounds: the two ends at A, the answer's variable behind them, the end so far. -/
structure Wq (w Wi : World) (A : Nat) (a b e : P2) (V : World) : Prop where
  kn : Kn w Wi V
  fa : PosAt V A a.1 a.2
  fb : PosAt V (A + 1) b.1 b.2
  fz : PosAt V (A + 2) 0 0
  fe : PosAt V (A + 3) e.1 e.2
section
variable {w Wi V V' : World} {A : Nat} {a b e : P2}
theorem Wq.below (h : Wq w Wi A a b e V) (hb : Below V.heap.size V V') : Wq w Wi A a b e V' :=
  ⟨h.kn.trans (Fr.ofBelow hb _), h.fa.below hb h.fa.lt, h.fb.below hb h.fb.lt, h.fz.below hb h.fz.lt, h.fe.below hb h.fe.lt⟩
theorem Wq.grown {B : Nat} {row : Option Nat} (h : Wq w Wi A a b e V) (hA : A + 4 ≤ B) (hB : w.heap.size ≤ B) (hg : V.grownBy V' row) (hr : ∀ r, row = some r → B ≤ r ∧ ∃ o : Obj, V.heap[r]? = some o ∧ o.isCells = false) : Wq w Wi A a b e V' := by
  have hk : ∀ k, k < B → k < V.heap.size → V'.heap[k]? = V.heap[k]? := fun k hk hkA => hg.block k hkA (fun e => by have := (hr _ e.symm).1; omega)
  exact ⟨own_kn (α := P2) hB [] V V' row h.kn hg hr, (hk _ (by omega) h.fa.lt).trans h.fa, (hk _ (by omega) h.fb.lt).trans h.fb, (hk _ (by omega) h.fz.lt).trans h.fz, (hk _ (by omega) h.fe.lt).trans h.fe⟩
theorem Wq.setE (h : Wq w Wi A a b e V) (hA : w.heap.size ≤ A) (l c : Nat) : Wq w Wi A a b (l, c) (setP V (A + 3) l c) :=
  ⟨h.kn.trans ((setP_fr _ _ _ _).mono (fun k _ e => by show w.heap.size ≤ k; omega)), (setP_other (by omega)).trans h.fa, (setP_other (by omega)).trans h.fb, (setP_other (by omega)).trans h.fz, setP_at h.fe _ _⟩
end

set_option maxHeartbeats 16000000 in
theorem without_any (a0 : Option Addr) (n c' : Nat) (ls : List ByteArray) (a b : P2) (w : World) (h : Ss w a0 n c' ls) (hs : ∀ s ∈ ls, s.size ≤ 140737488355328) (hn6 : n ≤ 1000000) :
    Calls Try.prog 32 #[.slice a0 n c', .agg #[.int .i64 a.1, .int .i64 a.2], .agg #[.int .i64 b.1, .int .i64 b.2]] w fun e w' =>
      e = .returned (.agg #[.int .i64 (wend ls a b).1, .int .i64 (wend ls a b).2]) ∧ Below w.heap.size w w' := by
  have hlen := h.length
  obtain ⟨r, hr⟩ : ∃ r, r = wend ls a b := ⟨_, rfl⟩
  rw [← hr]
  have HR := Lib.hid hr
  clear hr
  obtain ⟨X, hX⟩ : ∃ X, X = (((w.alloc (.cells #[.int .i64 a.1, .int .i64 a.2] 36)).alloc (.cells #[.int .i64 b.1, .int .i64 b.2] 36)).alloc (.cells #[.int .i64 0, .int .i64 0] 36)).alloc (.cells #[.int .i64 a.1, .int .i64 a.2] 36) := ⟨_, rfl⟩
  obtain ⟨hsX, e0, e1, e2, e3, hbX⟩ := So.four_rows w (.cells #[.int .i64 a.1, .int .i64 a.2] 36) (.cells #[.int .i64 b.1, .int .i64 b.2] 36) (.cells #[.int .i64 0, .int .i64 0] 36) (.cells #[.int .i64 a.1, .int .i64 a.2] 36)
  rw [← hX] at hsX e0 e1 e2 e3 hbX
  obtain ⟨A, hA⟩ : ∃ A, A = w.heap.size := ⟨_, rfl⟩
  rw [← hA] at e0 e1 e2 e3
  have hAw : w.heap.size ≤ A := by omega
  have hwA : A ≤ w.heap.size := by omega
  have HX := Lib.hid (And.intro hX hA)
  have hcl := cells_fresh _ n c' ls X (SrcV.below h hbX) hn6
  obtain ⟨Y, hY⟩ : ∃ Y, Y = ((w.alloc (.cells #[.int .i64 a.1, .int .i64 a.2] 36)).alloc (.cells #[.int .i64 b.1, .int .i64 b.2] 36)).alloc (.cells #[.int .i64 0, .int .i64 0] 36) := ⟨_, rfl⟩
  have hYa : PosAt Y w.heap.size a.1 a.2 := by
    rw [hY]
    exact (So.three_rows w (.cells #[.int .i64 a.1, .int .i64 a.2] 36) (.cells #[.int .i64 b.1, .int .i64 b.2] 36) (.cells #[.int .i64 0, .int .i64 0] 36)).2.1
  have p0 := hYa.c0
  have p1 := hYa.c1
  have HY := Lib.hid hY
  clear hX hA h hY hYa
  refine (callsIn_wide (n := 9)).1 ?_
  refine callsIn_of_wp_marks Try.func32 rfl trivial ?_ rfl
  simp only [Try.ntmps32, List.size_toArray, List.length_cons, List.length_nil, Nat.reduceAdd, Nat.reduceSub, Array.replicate_succ, Array.replicate_zero, List.push_toArray, List.append_toArray, List.nil_append, List.cons_append]
  refine wpIn_mono (Q := noPanic _) ?_ (noPanic_out _)
  clear p0 p1
  gi_wp2_with fail
  refine ⟨trivial, ?_⟩
  rw [← HX.out.1, ← HX.out.2]
  refine (callsIn_wide.2 hcl).mono ?_
  rintro e Wi ⟨bx, ob, oc, rfl, hcb, hss, hb3, hbx, hbx2, hbk⟩
  have bi := hbX.trans (hb3.mono hbX.size)
  have f0 : PosAt Wi A a.1 a.2 := (hb3.block _ (hlt e0)).trans e0
  have f1 : PosAt Wi (A + 1) b.1 b.2 := (hb3.block _ (hlt e1)).trans e1
  have f2 : PosAt Wi (A + 2) 0 0 := (hb3.block _ (hlt e2)).trans e2
  have f3 : PosAt Wi (A + 3) a.1 a.2 := (hb3.block _ (hlt e3)).trans e3
  have hAi : A + 4 ≤ Wi.heap.size := f3.lt
  have hit := cells_iter Wi bx hss hs hcb (fun k => k = A + 3) (by omega) (fun _ k o e e2 => by subst e; have := hbk k rfl; omega) (fun k e => by omega)
  have HSS := Lib.hid hs
  clear hcl hb3 e0 e1 e2 e3 hbX hcb hss hbx hbx2 hbk HX HY hsX hs
  rw [← hlen] at hit
  have HLS := Lib.hid hlen
  gi_wp2_with fail
  refine rangeFunc_iter (by omega) (gf := 46) (lb := #[.pointer (some ⟨bx, 0, none⟩)]) rfl (enters_of Try.func46 (by kernel_rfl) rfl) hit
    (fun h1 h2 => h1.trans h2) (fun V l o o' hl ho _ _ => Fr.grown (Fr.refl _ V) (grownBy_putObj' V l o') (fun k e _ => by cases e; exact .inr hl)) (Below.refl _ _) (fun _ => rfl)
    (fun pre V => Wq w Wi A a b (wb a b a pre) V)
    (fun c pre V => c = .exit 0 ∧ ∃ p0 x, pre = p0 ++ [x] ∧ lp x.1 b = false ∧ Wq w Wi A a b (wb a b a p0) V) ?hI ?hIx ⟨Fr.refl _ _, f0, f1, f2, f3⟩ ?round ?done ?stop
  case hI => exact fun s A' B row hs hg hr => hs.grown (B := Wi.heap.size) hAi bi.size hg hr
  case hIx =>
    rintro c s A' B row ⟨h1, p0, x, h3, h4, h6⟩ hg hr
    exact ⟨h1, p0, x, h3, h4, h6.grown (B := Wi.heap.size) hAi bi.size hg hr⟩
  case stop =>
    rintro D c pre V hD ⟨rest, hpre⟩ hne ⟨rfl, p0, x, rfl, hlx, hQ⟩ hk
    have hrq : r = wb a b a p0 := HR.out.trans (wend_stop (pre := p0) (rest := rest) (x := x) (by rw [← hpre]; simp) hlx)
    rw [← hrq] at hQ
    clear hrq hpre hne hlx
    have m0 := hQ.fe.c0
    have m1 := hQ.fe.c1
    have n0 := hQ.fz.c0
    have n1 := hQ.fz.c1
    have nz := fun k => frozen_of_row V (A + 2) k _ _ hQ.fz
    have HN := Lib.hid (And.intro hQ hk)
    clear hQ hk
    gi_wp2
    obtain ⟨hQ, hk⟩ := HN.out
    have hk9 := ((setP_fr V (A + 2) r.1 r.2).block D (hlt hk) (by omega)).trans hk
    have b9 := (Kn.below bi hQ.kn).trans ((setP_fr V (A + 2) r.1 r.2).below (B := w.heap.size) (by have := (Kn.below bi hQ.kn).size; omega) (fun k e => by omega))
    refine ⟨by simp, .inl ⟨_, _, rfl, run_takeDeferred hk9, ?_⟩⟩
    refine ⟨_, results_cell_row (P := Try.prog) rfl _ _ (A + 2) _ #[.int .i64 r.1, .int .i64 r.2] _ _ rfl ((World.putObj_heap_other (by omega)).trans (setP_at hQ.fz r.1 r.2)) Try.underlying36 rfl (by kernel_rfl), rfl, ?_⟩
    exact b9.grown (grownBy_putObj' _ D _) b9.size (fun k e => by cases e; omega)
  case done =>
    rintro D V hD hQ hk
    have hrq : r = wb a b a (cells (enr ls 0 ls.length)) := HR.out
    rw [← hrq] at hQ
    clear hrq
    have m0 := hQ.fe.c0
    have m1 := hQ.fe.c1
    have n0 := hQ.fz.c0
    have n1 := hQ.fz.c1
    have nz := fun k => frozen_of_row V (A + 2) k _ _ hQ.fz
    have HN := Lib.hid (And.intro hQ hk)
    clear hQ hk
    gi_wp2
    obtain ⟨hQ, hk⟩ := HN.out
    have hk9 := ((setP_fr V (A + 2) r.1 r.2).block D (hlt hk) (by omega)).trans hk
    have b9 := (Kn.below bi hQ.kn).trans ((setP_fr V (A + 2) r.1 r.2).below (B := w.heap.size) (by have := (Kn.below bi hQ.kn).size; omega) (fun k e => by omega))
    refine ⟨by simp, .inl ⟨_, _, rfl, run_takeDeferred hk9, ?_⟩⟩
    refine ⟨_, results_cell_row (P := Try.prog) rfl _ _ (A + 2) _ #[.int .i64 r.1, .int .i64 r.2] _ _ rfl ((World.putObj_heap_other (by omega)).trans (setP_at hQ.fz r.1 r.2)) Try.underlying36 rfl (by kernel_rfl), rfl, ?_⟩
    exact b9.grown (grownBy_putObj' _ D _) b9.size (fun k e => by cases e; omega)
  case round =>
    rintro l' pre x V0 ⟨rest, hpr⟩ hsz0 hS0
    obtain ⟨⟨i, j⟩, c⟩ := x
    dsimp only [encc]
    have HI0 := Lib.hid hS0
    clear hS0
    gi_wp2
    refine ⟨(Keep.refl _ _ _).alloc _ hsz0, (Fr.refl _ _).alloc _, HI0.out.below ((Below.refl _ V0).alloc (Nat.le_refl _) _), ?_⟩
    rintro V hgr hl - hszV hS
    obtain ⟨QB, hQB⟩ : ∃ QB, QB = V0.heap.size := ⟨_, rfl⟩
    have gq : PosAt V QB i j := by
      rw [hQB]
      exact (hgr.block _ (by simp) (by intro e; injection e with e; omega)).trans (heap_alloc_new V0 _)
    rw [← hQB]
    have hQM : A + 4 ≤ QB := by omega
    have p0 := hS.fb.c0
    have p1 := hS.fb.c1
    have q0 := gq.c0
    have q1 := gq.c1
    have hls := So.less_any i j b.1 b.2 V
    have HV := Lib.hid (And.intro hS gq)
    clear hgr hl hS gq hQB HI0
    cases hlb : lp (i, j) b
    · rw [show So.lt i j b.1 b.2 = false from hlb] at hls
      gi_wp2_with fail
      refine ⟨trivial, ?_⟩
      refine (CallsIn.inRound l' (callsIn_wide.2 hls)).mono ?_
      rintro e V2 ⟨rfl, hb2⟩
      have S2 := HV.out.1.below hb2
      have H2 := Lib.hid (And.intro S2 hb2)
      clear hls p0 p1 q0 q1 S2 hb2
      gi_wp2
      obtain ⟨S2, hb2⟩ := H2.out
      exact ⟨Keep.ofFr (Fr.ofBelow hb2 (fun _ => False)) hszV (fun k e => e.elim), rfl, pre, ((i, j), c), rfl, hlb, S2⟩
    · rw [show So.lt i j b.1 b.2 = true from hlb] at hls
      gi_wp2_with fail
      refine ⟨trivial, ?_⟩
      refine (CallsIn.inRound l' (callsIn_wide.2 hls)).mono ?_
      rintro e V2 ⟨rfl, hb2⟩
      have S2 := HV.out.1.below hb2
      have gq2 := HV.out.2.below hb2 HV.out.2.lt
      clear hls p0 p1 q0 q1
      have p0 := S2.fa.c0
      have p1 := S2.fa.c1
      have q0 := gq2.c0
      have q1 := gq2.c1
      have hl2 := So.less_any i j a.1 a.2 V2
      have H2 := Lib.hid (And.intro S2 (And.intro gq2 hb2))
      clear S2 gq2 hb2
      cases hla : lp (i, j) a
      · rw [show So.lt i j a.1 a.2 = false from hla] at hl2
        gi_wp2_with fail
        refine ⟨trivial, ?_⟩
        refine (CallsIn.inRound l' (callsIn_wide.2 hl2)).mono ?_
        rintro e V3 ⟨rfl, hb3⟩
        have S3 := H2.out.1.below hb3
        have gq3 := H2.out.2.1.below hb3 H2.out.2.1.lt
        have hb23 := below_on H2.out.2.2 hb3
        have H3 := Lib.hid (And.intro S3 hb23)
        clear hl2 p0 p1 q0 q1 hb3 hb23
        have q0 := gq3.c0
        have q1 := gq3.c1
        have m0 := S3.fe.c0
        have m1 := S3.fe.c1
        have mz := fun k => frozen_of_row V3 (A + 3) k _ _ S3.fe
        clear S3 gq3
        have hof := fun W => of_any c.toNat true W
        by_cases hc0 : cls c.toNat true = 0
        · rw [hc0] at hof
          have hok : okc a b ((i, j), c) = false := by unfold okc; rw [hc0]; simp
          have HOK := Lib.hid hok
          clear hok hc0
          gi_wp2_with fail
          refine ⟨trivial, ?_⟩
          refine (CallsIn.inRound l' (callsIn_wide.2 (hof _))).mono ?_
          rintro e w' ⟨rfl, rfl⟩
          clear hof
          gi_wp2
          obtain ⟨S3, hb23⟩ := H3.out
          refine ⟨Keep.ofFr (Fr.ofBelow hb23 (fun _ => False)) hszV (fun k e => e.elim), Fr.ofBelow hb23 _, ?_⟩
          show Wq w Wi A a b (wb a b a (pre ++ [((i, j), c)])) _
          rw [wb_no HOK.out]
          exact S3
        · have hok : okc a b ((i, j), c) = true := by unfold okc; rw [hla, hlb, decide_eq_true hc0]; rfl
          have HOK := Lib.hid hok
          have a0 : (cls c.toNat true == 0) = false := by rw [beq_eq_false_iff_ne]; exact hc0
          have hm2 : i < ls.length := by have := (cells_mem (show ((i, j), c) ∈ cells (enr ls 0 ls.length) by rw [hpr]; simp)).2.1; simp only at this; omega
          have hj : j < (lineAt ls i).size := by
            obtain ⟨_, _, hj, _⟩ := cells_mem (show ((i, j), c) ∈ cells (enr ls 0 ls.length) by rw [hpr]; simp)
            exact hj
          have hm3 := HSS.out (lineAt ls i) (by rw [lineAt_get hm2]; exact List.getElem_mem _)
          obtain ⟨M, hM⟩ : ∃ M, M = j + 1 := ⟨_, rfl⟩
          have hwM : IntKind.i64.wrap ((j : Int) + 1) = (M : Int) := by rw [IntKind.wrap_i64]; omega
          have HM := Lib.hid hM
          clear hok hc0 hM hm2 hj hm3
          generalize cls c.toNat true = CC at *
          gi_wp2_with fail
          refine ⟨trivial, ?_⟩
          refine (CallsIn.inRound l' (callsIn_wide.2 (hof _))).mono ?_
          rintro e w' ⟨rfl, rfl⟩
          clear hof
          gi_wp2
          obtain ⟨S3, hb23⟩ := H3.out
          have S9 := S3.setE hAw i M
          have f9 := setP_fr V3 (A + 3) i M
          refine ⟨(Keep.ofFr (Fr.ofBelow hb23 (fun _ => False)) hszV (fun k e => e.elim)).trans (Keep.ofFr f9 (by have := hb23.size; omega) (fun k e => .inl (by omega))), (Fr.ofBelow hb23 _).trans (f9.mono (fun k _ e => .inl e)), ?_⟩
          show Wq w Wi A a b (wb a b a (pre ++ [((i, j), c)])) _
          rw [wb_yes HOK.out]
          rw [HM.out] at S9 ⊢
          exact S9
      · rw [show So.lt i j a.1 a.2 = true from hla] at hl2
        have hok : okc a b ((i, j), c) = false := okc_low hla
        have HOK := Lib.hid hok
        clear hok
        gi_wp2_with fail
        refine ⟨trivial, ?_⟩
        refine (CallsIn.inRound l' (callsIn_wide.2 hl2)).mono ?_
        rintro e V3 ⟨rfl, hb3⟩
        have S3 := H2.out.1.below hb3
        have hb23 := below_on H2.out.2.2 hb3
        have H3 := Lib.hid (And.intro S3 hb23)
        clear hl2 p0 p1 q0 q1 hb3 hb23 S3
        gi_wp2_with (refine ⟨trivial, ?_⟩)
        obtain ⟨S3, hb23⟩ := H3.out
        refine ⟨Keep.ofFr (Fr.ofBelow hb23 (fun _ => False)) hszV (fun k e => e.elim), Fr.ofBelow hb23 _, ?_⟩
        show Wq w Wi A a b (wb a b a (pre ++ [((i, j), c)])) _
        rw [wb_no HOK.out]
        exact S3
end Go.Proofs.Ytnngcminomooeaa.Po
