/-
  The law ClassInside, walked.
-/
import Derived.Test.YtbckfcndkeoogaaCk
set_option linter.unusedVariables false
set_option linter.unusedSimpArgs false
set_option maxRecDepth 100000
namespace Go.Proofs.Ytbckfcndkeoogaa.CInside
open Go Go.RowKit Go.Proofs.Ytbckfcndkeoogaa.Vk Go.Proofs.Ytbckfcndkeoogaa.Str Go.Proofs.Ytbckfcndkeoogaa.Ln Go.Proofs.Ytbckfcndkeoogaa.Cl
attribute [local go_sem] Oper.semAt_some

/-- What the law asks of the two places. -/
def Fits (n : Nat) (z : Nat) (a b : Int) (i u v : Nat) : Prop :=
  i < n ∧ u ≤ z ∧ v ≤ z - 1 ∧ (∀ j : Nat, j < n → a = j → i = j) ∧ (∀ m : Nat, m ≤ z → b = m → u = m ∧ (v : Int) = min (m : Int) ((z - 1 : Nat) : Int))
theorem fits (ls : List ByteArray) (a b : Int) (h : 0 < ls.length) : Fits ls.length (lineAt ls (clL ls a)).size a b (clL ls a) (clC ls a b true) (clC ls a b false) := by
  unfold Fits clC clL top
  rw [if_pos rfl, if_neg (by decide)]
  generalize (lineAt ls (cl ls.length a)).size = z
  refine ⟨cl_lt a h, ?_, ?_, ?_, ?_⟩
  · unfold cl; omega
  · unfold cl; omega
  · rintro j hj rfl; exact cl_in hj
  · rintro m hm rfl; unfold cl; omega

theorem ret_eq {x y : Int} (h : x = y) : Ending.returned (.bool (x == y)) = Ending.returned (.bool true) := by rw [h, beq_self_eq_true]

set_option maxHeartbeats 2000000 in
theorem walk (a : Option Addr) (n c : Nat) (ls : List ByteArray) (l b : Int) (w : World) (h : Ss w a n c ls) (hs : ∀ s ∈ ls, s.size ≤ 140737488355328) (hl : (Lit.int .i64 l).wf = true) (hb : (Lit.int .i64 b).wf = true) :
    Calls Try.prog 7 #[.slice a n c, .int .i64 l, .int .i64 b] w fun e w' => e = .returned (.bool true) ∧ Below w.heap.size w w' := by
  have hk := known_any w
  have hlen := h.length
  go_enter Try.func7, Try.ntmps7
  go_wp2_with fail
  refine hk.mono ?_
  rintro e w1 ⟨rfl, hb1⟩
  have htx := text_any a n c ls w1 (SrcV.below h hb1) hs
  have HS1 := Lib.hid (SrcV.below h hb1)
  have HB1 := Lib.hid hb1
  clear hk hb1 h
  go_wp2_with fail
  refine htx.mono ?_
  rintro e w' ⟨q, rfl, rfl, hq⟩
  clear htx
  cases q
  · clear hq
    go_wp2
    go_ret
    exact ⟨rfl, HB1.out⟩
  obtain ⟨hn0, hn40, hz, _⟩ := hq rfl
  clear hq
  have h1 := clamp_any a n c ls l b true w1 HS1.out hs
  have hf := fits ls l b (by omega)
  rw [hlen] at hf
  have hi := hf.1
  have hlt := lineAt_get (ls := ls) (k := clL ls l) (by omega)
  obtain ⟨bb, oo, rfl, hcell, hnc, _⟩ := Ss.read HS1.out (clL ls l) (by omega)
  rw [← hlt] at hcell
  have hsz : (lineAt ls (clL ls l)).size + 1 ≤ tz ls := tz_mem _ _ (by rw [hlt]; exact List.getElem_mem _)
  have h2 := fun W (hW : Below w1.heap.size w1 W) => clamp_any _ n c ls l b false W (SrcV.below HS1.out hW) hs
  clear hlt
  generalize lineAt ls (clL ls l) = s at *
  generalize clL ls l = i at *
  generalize clC ls l b true = u at *
  generalize clC ls l b false = v at *
  have hz1 := HB1.out.size
  go_wp2_with fail
  refine h1.mono ?_
  rintro e w2 ⟨rfl, hb2⟩
  have hb2' : Below w1.heap.size w1 (w2.alloc (Obj.cells #[.int .i64 (i : Int), .int .i64 (u : Int)] 28)) := hb2.alloc hb2.size _
  have h3 := h2 _ hb2'
  have HB2 := Lib.hid hb2'
  clear h1 h2 hb2 hb2'
  go_wp2_with fail
  refine h3.mono ?_
  rintro e w3 ⟨rfl, hb3⟩
  clear h3
  obtain ⟨X, hX⟩ : ∃ X, X = w2.alloc (Obj.cells #[.int .i64 (i : Int), .int .i64 (u : Int)] 28) := ⟨_, rfl⟩
  have p0 : X.cell? ⟨w2.heap.size, 0, none⟩ = some (.int .i64 (i : Int)) := by rw [hX, World.cell?_alloc_at (hn := by simp)]; rfl
  have p1 : X.cell? ⟨w2.heap.size, 1, none⟩ = some (.int .i64 (u : Int)) := by rw [hX, World.cell?_alloc_at (hn := by simp)]; rfl
  rw [← hX] at hb3
  have hbX : Below w1.heap.size w1 X := by rw [hX]; exact HB2.out
  have hbw3 : ∀ O, Below X.heap.size X (w3.alloc O) := fun O => hb3.alloc hb3.size O
  have P0 := fun O => cell_later (hbw3 O) p0
  have P1 := fun O => cell_later (hbw3 O) p1
  have P2 := fun O => cell_later (hbX.trans ((hbw3 O).mono hbX.size)) hcell
  have HBF := Lib.hid (fun O => HB1.out.trans ((hbX.trans ((hbw3 O).mono hbX.size)).mono hz1))
  obtain ⟨_, hu, hv, hfa, hfb⟩ := hf
  have HFA := Lib.hid hfa
  have HFB := Lib.hid hfb
  have hwz : IntKind.i64.wrap ((s.size : Int) - 1) = (s.size : Int) - 1 := by rw [IntKind.wrap_i64]; omega
  have hmx : (if (s.size : Int) - 1 < 0 then 0 else (s.size : Int) - 1) = ((s.size - 1 : Nat) : Int) := by omega
  have hmx' : max ((s.size : Int) - 1) 0 = ((s.size - 1 : Nat) : Int) := by omega
  clear hcell hbX hbw3 p0 p1 hb3 hX hfa hfb HS1 HB1 HB2
  have hA : 0 ≤ l → l < n → (i : Int) = l := fun h1 h2 => by have := HFA.out l.toNat (by omega) (by omega); omega
  have hB : 0 ≤ b → b ≤ s.size → (u : Int) = b ∧ (v : Int) = min b ((s.size - 1 : Nat) : Int) := fun h1 h2 => by have := HFB.out b.toNat (by omega) (by omega); omega
  have HA := Lib.hid hA
  have HBB := Lib.hid hB
  clear hA hB HFA HFB
  go_wp2
  all_goals go_ret
  all_goals refine ⟨?_, HBF.out _⟩
  all_goals have hA := HA.out
  all_goals have hB := HBB.out
  all_goals simp only [bne_iff_ne, ne_eq, beq_iff_eq, beq_eq_false_iff_ne, bne_eq_false_iff_eq] at *
  all_goals first | rfl | (exfalso; omega) | exact ret_eq (by omega)

end Go.Proofs.Ytbckfcndkeoogaa.CInside
