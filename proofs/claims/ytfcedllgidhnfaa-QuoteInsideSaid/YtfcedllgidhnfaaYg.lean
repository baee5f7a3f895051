/-
  Package quoteobj: Inner, Around.
-/
import Derived.Test.YtfcedllgidhnfaaYc
import Derived.Test.YtfcedllgidhnfaaYe
set_option linter.unusedVariables false
set_option linter.unusedSimpArgs false
set_option maxRecDepth 100000
namespace Go.Proofs.Ytfcedllgidhnfaa.Wo
open Go Go.RowKit Go.Proofs.Ytfcedllgidhnfaa.Vk Go.Proofs.Ytfcedllgidhnfaa.Str Go.Proofs.Ytfcedllgidhnfaa.Ln Go.Proofs.Ytfcedllgidhnfaa.Cl Go.Proofs.Ytfcedllgidhnfaa.Mv
attribute [local go_sem] Oper.semAt_some

set_option maxHeartbeats 4000000 in
theorem inner_any (a : Option Addr) (n c' : Nat) (ls : List ByteArray) (l c q : Int) (w : World) (h : Ss w a n c' ls) (hs : ∀ s ∈ ls, s.size ≤ 140737488355328) :
    Calls Try.prog 13 #[.slice a n c', .agg #[.int .i64 l, .int .i64 c], .int .u8 q] w fun e w' => e = .returned (anV l.toNat (inQ ls q l c)) ∧ Below w.heap.size w w' := by
  obtain ⟨X, hX⟩ : ∃ X, X = (w.alloc (.cells #[.int .i64 l, .int .i64 c] 34)).alloc (.cells #[.int .i64 0, .int .i64 0, .int .i64 0, .int .i64 0, .int .i64 0] 41) := ⟨_, rfl⟩
  have hT : Vb w X l c := by rw [hX]; exact Vb.new w l c
  have hpo := pairof_any a n c' ls l c q X (SrcV.below h hT.below) hs
  have p0 := hT.pos.c0
  have p1 := hT.pos.c1
  have HX := Lib.hid hX
  have HT := Lib.hid hT
  clear hX hT
  cases hp : pof ls q l c with
  | none =>
    rw [inQ_none hp]
    rw [hp] at hpo
    simp only [pvV, anV] at hpo ⊢
    clear hp h
    go_enter Try.func13, Try.ntmps13
    go_wp2_with fail
    rw [← HX.out]
    refine hpo.mono ?_
    rintro e w1 ⟨rfl, hb1⟩
    have T1 := HT.out.on hb1
    clear hb1 hpo p0 p1
    have r0 := T1.rg.c0
    have r1 := T1.rg.c1
    have r2 := T1.rg.c2
    have r3 := T1.rg.c3
    have r4 := T1.rg.c4
    have z := T1.rg.z
    go_wp2
    obtain ⟨hg, hb⟩ := T1.ret 0 0 0 0 0
    exact ret_rb (g := w.heap.size + 1) rfl rfl rfl rfl hg ⟨rfl, hb⟩
  | some x =>
    obtain ⟨ho, hx, hcx⟩ := pof_some hp
    obtain ⟨i, k, rfl, rfl, hi, hik⟩ := ho.nat
    rw [inQ_some hp]
    rw [hp] at hpo
    rw [Int.toNat_natCast] at *
    simp only [pvV, anV] at hpo ⊢
    have hsz := hs (lineAt ls i) (by rw [lineAt_get hi]; exact List.getElem_mem hi)
    have h1 := hx.lt
    have h2 := hx.le
    obtain ⟨A, B⟩ := x
    simp only at h1 h2 hpo ⊢
    obtain ⟨A1, hA1⟩ : ∃ A1, A1 = A + 1 := ⟨_, rfl⟩
    have hw : IntKind.i64.wrap ((A : Int) + 1) = (A1 : Int) := by rw [IntKind.wrap_i64]; omega
    rw [← hA1]
    have hco := fun W => columns_any i A1 B W
    clear hp h hx hcx ho hi hik hsz h1 h2 hA1 hs
    go_enter Try.func13, Try.ntmps13
    go_wp2_with fail
    rw [← HX.out]
    refine hpo.mono ?_
    rintro e w1 ⟨rfl, hb1⟩
    have T1 := HT.out.on hb1
    clear hb1 hpo p0 p1
    have p0 := T1.pos.c0
    have p1 := T1.pos.c1
    go_wp2_with fail
    refine (hco _).mono ?_
    rintro e w2 ⟨rfl, hb2⟩
    have T2 := T1.on hb2
    clear hb2 hco p0 p1 T1
    have r0 := T2.rg.c0
    have r1 := T2.rg.c1
    have r2 := T2.rg.c2
    have r3 := T2.rg.c3
    have r4 := T2.rg.c4
    have z := T2.rg.z
    go_wp2
    obtain ⟨hg, hb⟩ := T2.ret 0 i A1 i B
    exact ret_rb (g := w.heap.size + 1) rfl rfl rfl rfl hg ⟨rfl, hb⟩

set_option maxHeartbeats 4000000 in
theorem around_any (a : Option Addr) (n c' : Nat) (ls : List ByteArray) (l c q : Int) (w : World) (h : Ss w a n c' ls) (hs : ∀ s ∈ ls, s.size ≤ 140737488355328) :
    Calls Try.prog 15 #[.slice a n c', .agg #[.int .i64 l, .int .i64 c], .int .u8 q] w fun e w' => e = .returned (anV l.toNat (arQ ls q l c)) ∧ Below w.heap.size w w' := by
  have hlen := h.length
  have hn := h.le63
  obtain ⟨X, hX⟩ : ∃ X, X = (w.alloc (.cells #[.int .i64 l, .int .i64 c] 34)).alloc (.cells #[.int .i64 0, .int .i64 0, .int .i64 0, .int .i64 0, .int .i64 0] 41) := ⟨_, rfl⟩
  have hT : Vb w X l c := by rw [hX]; exact Vb.new w l c
  have hpo := pairof_any a n c' ls l c q X (SrcV.below h hT.below) hs
  have p0 := hT.pos.c0
  have p1 := hT.pos.c1
  have HX := Lib.hid hX
  have HT := Lib.hid hT
  clear hX hT
  cases hp : pof ls q l c with
  | none =>
    rw [arQ_none hp]
    rw [hp] at hpo
    simp only [pvV, anV] at hpo ⊢
    clear hp h
    go_enter Try.func15, Try.ntmps15
    go_wp2_with fail
    rw [← HX.out]
    refine hpo.mono ?_
    rintro e w1 ⟨rfl, hb1⟩
    have T1 := HT.out.on hb1
    clear hb1 hpo p0 p1
    have r0 := T1.rg.c0
    have r1 := T1.rg.c1
    have r2 := T1.rg.c2
    have r3 := T1.rg.c3
    have r4 := T1.rg.c4
    have z := T1.rg.z
    go_wp2
    obtain ⟨hg, hb⟩ := T1.ret 0 0 0 0 0
    exact ret_rb (g := w.heap.size + 1) rfl rfl rfl rfl hg ⟨rfl, hb⟩
  | some x =>
    obtain ⟨ho, hx, hcx⟩ := pof_some hp
    obtain ⟨i, k, rfl, rfl, hi, hik⟩ := ho.nat
    rw [arQ_some hp]
    rw [hp] at hpo
    rw [Int.toNat_natCast] at *
    obtain ⟨ba, o, rfl, hcl, hnc, _⟩ := h.read i (by omega)
    have hlt' := lineAt_get hi
    have hstz := hs (ls[i]'hi) (List.getElem_mem hi)
    rw [← hlt'] at hcl hstz
    obtain ⟨st, hst⟩ : ∃ st, st = lineAt ls i := ⟨_, rfl⟩
    rw [← hst] at hcl hstz hx ⊢
    have hin2 : i < n := by omega
    have h1 := hx.lt
    have h2 := hx.le
    obtain ⟨A, B⟩ := x
    simp only [pvV] at h1 h2 hpo
    obtain ⟨B1, hB1⟩ : ∃ B1, B1 = B + 1 := ⟨_, rfl⟩
    have hw : IntKind.i64.wrap ((B : Int) + 1) = (B1 : Int) := by rw [IntKind.wrap_i64]; omega
    have hpa := fun W => past_any st B1 W (by omega) hstz
    have hbe := fun W => before_any st A W (by omega) hstz
    obtain ⟨F, hF⟩ : ∃ F, F = fb st B1 := ⟨_, rfl⟩
    rw [← hF] at hpa
    have hcl := cell_later HT.out.below hcl
    unfold brd
    simp only [← hB1, ← hF]
    have HST := Lib.hid (And.intro hB1 hF)
    clear hp h hx hcx ho hi hik h1 h2 hs hst hlt' hB1 hF
    by_cases hFB : F = B1
    · rw [if_pos hFB]
      have e1 : ((F : Int) == (B1 : Int)) = true := by rw [beq_iff_eq]; omega
      have e2 : (F == B1) = true := by rw [beq_iff_eq]; exact hFB
      have HFB := Lib.hid hFB
      obtain ⟨P, hP⟩ : ∃ P, P = bb0 st A := ⟨_, rfl⟩
      rw [← hP] at hbe ⊢
      have hco := fun W => columns_any i P F W
      simp only [anV]
      clear hP hFB
      go_enter Try.func15, Try.ntmps15
      go_wp2_with fail
      rw [← HX.out]
      refine hpo.mono ?_
      rintro e w1 ⟨rfl, hb1⟩
      have T1 := HT.out.on hb1
      have hcl := cell_later hb1 hcl
      clear hb1 hpo p0 p1
      have p0 := T1.pos.c0
      have p1 := T1.pos.c1
      go_wp2_with fail
      refine (hpa _).mono ?_
      rintro e w2 ⟨rfl, rfl⟩
      clear hpa
      go_wp2_with fail
      refine (hbe _).mono ?_
      rintro e w2 ⟨rfl, rfl⟩
      clear hbe
      go_wp2_with fail
      refine (hco _).mono ?_
      rintro e w2 ⟨rfl, hb2⟩
      have T2 := T1.on hb2
      clear hb2 hco p0 p1 T1 hcl
      have r0 := T2.rg.c0
      have r1 := T2.rg.c1
      have r2 := T2.rg.c2
      have r3 := T2.rg.c3
      have r4 := T2.rg.c4
      have z := T2.rg.z
      go_wp2
      obtain ⟨hg, hb⟩ := T2.ret 0 i P i F
      exact ret_rb (g := w.heap.size + 1) rfl rfl rfl rfl hg ⟨by rw [HFB.out], hb⟩
    · rw [if_neg hFB]
      have e1 : ((F : Int) == (B1 : Int)) = false := by rw [beq_eq_false_iff_ne]; omega
      have e2 : (F == B1) = false := by rw [beq_eq_false_iff_ne]; exact hFB
      have hco := fun W => columns_any i A F W
      simp only [anV]
      clear hFB hbe
      go_enter Try.func15, Try.ntmps15
      go_wp2_with fail
      rw [← HX.out]
      refine hpo.mono ?_
      rintro e w1 ⟨rfl, hb1⟩
      have T1 := HT.out.on hb1
      have hcl := cell_later hb1 hcl
      clear hb1 hpo p0 p1
      have p0 := T1.pos.c0
      have p1 := T1.pos.c1
      go_wp2_with fail
      refine (hpa _).mono ?_
      rintro e w2 ⟨rfl, rfl⟩
      clear hpa
      go_wp2_with fail
      refine (hco _).mono ?_
      rintro e w2 ⟨rfl, hb2⟩
      have T2 := T1.on hb2
      clear hb2 hco p0 p1 T1 hcl
      have r0 := T2.rg.c0
      have r1 := T2.rg.c1
      have r2 := T2.rg.c2
      have r3 := T2.rg.c3
      have r4 := T2.rg.c4
      have z := T2.rg.z
      go_wp2
      obtain ⟨hg, hb⟩ := T2.ret 0 i A i F
      exact ret_rb (g := w.heap.size + 1) rfl rfl rfl rfl hg ⟨rfl, hb⟩
end Go.Proofs.Ytfcedllgidhnfaa.Wo
