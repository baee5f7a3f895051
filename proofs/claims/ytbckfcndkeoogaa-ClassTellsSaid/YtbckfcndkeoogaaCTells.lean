/-
  The law ClassTells, walked.
-/
import Derived.Test.YtbckfcndkeoogaaCk
set_option linter.unusedVariables false
set_option linter.unusedSimpArgs false
set_option maxRecDepth 100000
namespace Go.Proofs.Ytbckfcndkeoogaa.CTells
open Go Go.RowKit Go.Proofs.Ytbckfcndkeoogaa.Vk Go.Proofs.Ytbckfcndkeoogaa.Str Go.Proofs.Ytbckfcndkeoogaa.Ln Go.Proofs.Ytbckfcndkeoogaa.Cl
attribute [local go_sem] Oper.semAt_some

theorem walk (c : Int) (s : ByteArray) (w : World) (_hc : (Lit.int .u8 c).wf = true) (hs : s.size ≤ 140737488355328) :
    Calls Try.prog 3 #[.int .u8 c, .string s] w fun e w' => e = .returned (.bool true) ∧ Below w.heap.size w w' := by
  have hk := known_any w
  have h1 := fun W => of_any c false W
  have h2 := fun W => of5_any c false W
  have h3 := fun W => of_any c true W
  have h4 := fun W => of5_any c true W
  have h5 := fun W => first_any s W (by omega)
  have h6 := fun W => first5_any s W (by omega)
  by_cases hl : 300 < s.size
  · clear h1 h2 h3 h4 h5 h6
    go_enter Try.func3, Try.ntmps3
    go_wp2_with fail
    refine hk.mono ?_
    rintro e w1 ⟨rfl, hb1⟩
    have HB := Lib.hid hb1
    clear hk hb1
    go_wp2
    go_ret
    exact ⟨rfl, HB.out⟩
  have hz : ((⟨#[32, 9]⟩ : ByteArray) ++ s).size ≤ 302 := by rw [ByteArray.size_append]; show 2 + s.size ≤ 302; omega
  have h7 := fun W => first_any (⟨#[32, 9]⟩ ++ s) W (by omega)
  have h8 := fun W => first5_any (⟨#[32, 9]⟩ ++ s) W (by omega)
  clear hz
  generalize cls c false = z1 at *
  generalize cls c true = z2 at *
  generalize fst s = z3 at *
  generalize fst (⟨#[32, 9]⟩ ++ s) = z4 at *
  have hcap : ¬ 9223372036854775807 < 2 + s.size := by omega
  go_enter Try.func3, Try.ntmps3
  go_wp2_with fail
  refine hk.mono ?_
  rintro e w1 ⟨rfl, hb1⟩
  have HB := Lib.hid hb1
  clear hk hb1
  go_wp2_with fail
  refine (h1 _).mono ?_
  rintro e w' ⟨rfl, rfl⟩
  clear h1
  go_wp2_with fail
  refine (h2 _).mono ?_
  rintro e w' ⟨rfl, rfl⟩
  clear h2
  go_wp2_with fail
  refine (h3 _).mono ?_
  rintro e w' ⟨rfl, rfl⟩
  clear h3
  go_wp2_with fail
  refine (h4 _).mono ?_
  rintro e w' ⟨rfl, rfl⟩
  clear h4
  go_wp2_with fail
  refine (h5 _).mono ?_
  rintro e w' ⟨rfl, rfl⟩
  clear h5
  go_wp2_with fail
  refine (h6 _).mono ?_
  rintro e w' ⟨rfl, rfl⟩
  clear h6
  go_wp2_with fail
  refine (h7 _).mono ?_
  rintro e w' ⟨rfl, rfl⟩
  clear h7
  go_wp2_with fail
  refine (h8 _).mono ?_
  rintro e w' ⟨rfl, rfl⟩
  clear h8
  go_wp2
  go_ret
  exact ⟨rfl, HB.out⟩

end Go.Proofs.Ytbckfcndkeoogaa.CTells
