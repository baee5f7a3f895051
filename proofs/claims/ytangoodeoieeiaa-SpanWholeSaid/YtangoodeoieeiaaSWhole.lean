/-
  The law SpanWhole, walked.
-/
import Derived.Test.YtangoodeoieeiaaSq
set_option linter.unusedVariables false
set_option linter.unusedSimpArgs false
set_option maxRecDepth 100000
namespace Go.Proofs.Ytangoodeoieeiaa.SWhole
open Go Go.RowKit Go.Proofs.Ytangoodeoieeiaa.Vk Go.Proofs.Ytangoodeoieeiaa.Str Go.Proofs.Ytangoodeoieeiaa.Ln Go.Proofs.Ytangoodeoieeiaa.Cl Go.Proofs.Ytangoodeoieeiaa.So
attribute [local go_sem] Oper.semAt_some

set_option maxHeartbeats 4000000 in
theorem walk (a : Option Addr) (n c : Nat) (ls : List ByteArray) (w : World) (h : Ss w a n c ls) (hs : ∀ s ∈ ls, s.size ≤ 140737488355328) :
    Calls Try.prog 6 #[.slice a n c] w fun e w' => e = .returned (.bool true) ∧ Below w.heap.size w w' := by
  have hk := known_any w
  have hlen := h.length
  go_enter Try.func6, Try.ntmps6
  go_wp2_with fail
  refine hk.mono ?_
  rintro e w1 ⟨rfl, hb1⟩
  have htx := text_any a n c ls w1 (SrcV.below h hb1) hs
  have HS1 := Lib.hid (SrcV.below h hb1)
  have HB1 := Lib.hid hb1
  clear hk hb1 h
  go_wp2_with fail
  refine htx.mono ?_
  rintro e w' ⟨q, rfl, rfl, hq⟩
  clear htx
  cases q
  · clear hq
    go_wp2
    go_ret
    exact ⟨rfl, HB1.out⟩
  obtain ⟨hn0, hn40, hz, _⟩ := hq rfl
  clear hq
  obtain ⟨m, hm⟩ : ∃ m, n = m + 1 := ⟨n - 1, by omega⟩
  subst hm
  obtain ⟨bb, oo, rfl, hcell, hnc, _⟩ := Ss.read HS1.out m (by omega)
  have hlt := lineAt_get (ls := ls) (k := m) (by omega)
  rw [← hlt] at hcell
  have hszs : ∀ i, i < ls.length → (lineAt ls i).size ≤ 1240 := fun i hi => by
    have := tz_mem ls (lineAt ls i) (by rw [lineAt_get hi]; exact List.getElem_mem hi)
    omega
  have hsz := hszs m (by omega)
  have k1 := whole_char ls (by omega)
  have k2 := whole_line ls (by omega)
  have k3 := whole_block ls (by omega) 1048576 (by decide) (fun i hi => by have := hszs i hi; omega)
  rw [show (ls.length : Int) - 1 = (m : Int) by omega] at k1 k2 k3
  rw [show ls.length - 1 = m by omega] at k1
  have t1 := text_ok _ (m + 1) c ls 0 0 0 m (lineAt ls m).size w1 HS1.out hs k1.1 (by omega)
  have t2 := fun W (hW : Below w1.heap.size w1 W) => text_ok _ (m + 1) c ls 1 0 0 m 0 W (SrcV.below HS1.out hW) hs k2.1 (by omega)
  have t3 := fun W (hW : Below w1.heap.size w1 W) => text_ok _ (m + 1) c ls 2 0 0 m 1048576 W (SrcV.below HS1.out hW) hs k3.1 (by omega)
  rw [k1.2, hlen] at t1
  simp only [k2.2, hlen] at t2
  simp only [k3.2, hlen] at t3
  have hw1 : IntKind.i64.wrap (((m + 1 : Nat) : Int) - 1) = (m : Int) := by rw [IntKind.wrap_i64]; omega
  generalize lineAt ls m = st at *
  have hw2 : IntKind.i64.wrap ((m : Int) + 1 - 1) = (m : Int) := by rw [IntKind.wrap_i64]; omega
  clear k1 k2 k3 hlt hszs
  go_wp2_with fail
  refine t1.mono ?_
  rintro e w2 ⟨b2, c2, rfl, s2, hb2, _⟩
  have t2' := t2 w2 hb2
  have HS2 := Lib.hid s2
  have HB2 := Lib.hid hb2
  clear t1 t2 s2 hb2
  go_wp2_with fail
  refine t2'.mono ?_
  rintro e w3 ⟨b3, c3, rfl, s3, hb3, _⟩
  have hb13 := HB2.out.trans (hb3.mono HB2.out.size)
  have t3' := t3 w3 hb13
  have HS3 := Lib.hid s3
  have HB3 := Lib.hid hb3
  have HB13 := Lib.hid hb13
  clear t2' t3 s3 hb3 hb13
  go_wp2_with fail
  refine t3'.mono ?_
  rintro e w4 ⟨b4, c4, rfl, s4, hb4, _⟩
  clear t3'
  have u1 := SrcV.below HS2.out (HB3.out.trans (hb4.mono HB3.out.size))
  have u2 := SrcV.below HS3.out hb4
  have hb14 := HB13.out.trans (hb4.mono HB13.out.size)
  have u0 := SrcV.below HS1.out hb14
  have e1 := strings_any b2 (m + 1) c2 ls _ (m + 1) c ls w4 u1 u0
  have e2 := fun k => strings_any b3 (m + 1) c3 ls _ (m + 1) c ls (w4.drewN k) (Ss.drewN u2 k) (Ss.drewN u0 k)
  have e3 := fun k => strings_any b4 (m + 1) c4 ls _ (m + 1) c ls (w4.drewN k) (Ss.drewN s4 k) (Ss.drewN u0 k)
  rw [show decide (ls = ls) = true from decide_eq_true rfl] at e1 e2 e3
  have HB := Lib.hid (HB1.out.trans (hb14.mono HB1.out.size))
  clear u1 u2 u0 s4 hb4 hb14
  go_wp2_with fail
  refine e1.mono ?_
  rintro e w' ⟨rfl, j, rfl⟩
  clear e1
  go_wp2_with fail
  refine (e2 _).mono ?_
  rintro e w' ⟨rfl, j2, rfl⟩
  rw [World.drewN_drewN]
  clear e2
  go_wp2_with fail
  refine (e3 _).mono ?_
  rintro e w' ⟨rfl, j3, rfl⟩
  clear e3
  go_wp2
  go_ret
  exact ⟨rfl, HB.out.trans ⟨rfl, rfl, rfl, Nat.le_refl _, fun _ _ => rfl⟩⟩

end Go.Proofs.Ytangoodeoieeiaa.SWhole
