/-
  The law ClassSame, walked.
-/
import Derived.Test.YtbckfcndkeoogaaCk
set_option linter.unusedVariables false
set_option linter.unusedSimpArgs false
set_option maxRecDepth 100000
namespace Go.Proofs.Ytbckfcndkeoogaa.CSame
open Go Go.RowKit Go.Proofs.Ytbckfcndkeoogaa.Vk Go.Proofs.Ytbckfcndkeoogaa.Str Go.Proofs.Ytbckfcndkeoogaa.Ln Go.Proofs.Ytbckfcndkeoogaa.Cl
attribute [local go_sem] Oper.semAt_some

theorem walk (a : Option Addr) (n c : Nat) (x : List ByteArray) (a' : Option Addr) (n' c' : Nat) (y : List ByteArray) (same : Bool) (w : World) (h : Ss w a n c x) (hsb : ∀ s ∈ x, s.size ≤ 140737488355328) (h' : Ss w a' n' c' y) (hsb' : ∀ s ∈ y, s.size ≤ 140737488355328) :
    Calls Try.prog 5 #[.slice a n c, .slice a' n' c', .bool same] w fun e w' => e = .returned (.bool true) ∧ Below w.heap.size w w' := by
  have hk := known_any w
  go_enter Try.func5, Try.ntmps5
  go_wp2_with fail
  refine hk.mono ?_
  rintro e w1 ⟨rfl, hb1⟩
  have hx1 : Ss w1 a n c x := SrcV.below h hb1
  have hy1 : Ss w1 a' n' c' y := SrcV.below h' hb1
  have HB1 := Lib.hid hb1
  have hl1 := light_any a n c x w1 hx1 hsb
  have hl2 := light_any a' n' c' y w1 hy1 hsb'
  have HX1 := Lib.hid hx1
  have HY1 := Lib.hid hy1
  clear hk hb1 h h' hx1 hy1
  go_wp2_with fail
  refine hl1.mono ?_
  rintro e w' ⟨q, rfl, rfl, hq⟩
  clear hl1
  cases q
  · clear hl2 hq
    go_wp2
    go_ret
    exact ⟨rfl, HB1.out⟩
  obtain ⟨hn, htz, _⟩ := hq rfl
  clear hq htz
  go_wp2_with fail
  refine hl2.mono ?_
  rintro e w' ⟨q', rfl, rfl, hq'⟩
  clear hl2
  cases q'
  · clear hq'
    go_wp2
    go_ret
    exact ⟨rfl, HB1.out⟩
  clear hq'
  cases same
  · have h1 := same_any a n c x a' n' c' y w1 HX1.out HY1.out
    have h2 := fun m => strings_any a n c x a' n' c' y (w1.drewN m) (HX1.out.drewN m) (HY1.out.drewN m)
    have h3 := fun m => same_any a n c x a n c x (w1.drewN m) (HX1.out.drewN m) (HX1.out.drewN m)
    rw [show decide (x = x) = true from decide_eq_true rfl] at h3
    generalize decide (x = y) = q at *
    go_wp2_with fail
    refine h1.mono ?_
    rintro e w' ⟨rfl, m, rfl⟩
    clear h1
    go_wp2_with fail
    refine (h2 m).mono ?_
    rintro e w' ⟨rfl, m2, rfl⟩
    rw [World.drewN_drewN]
    clear h2
    go_wp2_with fail
    refine (h3 _).mono ?_
    rintro e w' ⟨rfl, m3, rfl⟩
    clear h3
    go_wp2
    go_ret
    exact ⟨rfl, HB1.out.trans ⟨rfl, rfl, rfl, Nat.le_refl _, fun _ _ => rfl⟩⟩
  · obtain ⟨i0, hi0, hz0, hz1, hz2⟩ := info_parts infoS
    have hs2 := HX1.out
    go_wp2_with (at_builtin; go_must (refine append_srcv _ rfl _ _ 26 rfl w1.heap.size ES i0 (.string ⟨#[]⟩) 1 16 underS hi0 hz0 hz1 hz2 rfl (by decide) _ 0 [] rfl (World.ownsRow_nil w1 w1.heap.size ES 1) _ n (x.map .string) rfl hs2 (by simp only [maxLen]; omega) (by omega) (Nat.le_refl _) ?_); intro ob oc w2 hown hg hnr; clear hs2)
    simp only [Nat.zero_add, List.nil_append] at hown ⊢
    have hf2 : Fr (fun _ => False) w1 w2 := (Fr.refl _ w1).grown hg (by intro k hk; simp [Value.ownBlock, Act.eval] at hk)
    have hb2 : Below w1.heap.size w1 w2 := hf2.below (Nat.le_refl _) (by simp)
    have hz1 := HB1.out.size
    have HB2 := Lib.hid (HB1.out.trans (hb2.mono hz1))
    have hy2 : Ss w2 ob n oc x := SrcV.ofOwn hown (one_cells x)
    have hx2 : Ss w2 a n c x := SrcV.below HX1.out hb2
    have h1 := same_any a n c x ob n oc x w2 hx2 hy2
    have h2 := fun m => strings_any a n c x ob n oc x (w2.drewN m) (hx2.drewN m) (hy2.drewN m)
    have h3 := fun m => same_any a n c x a n c x (w2.drewN m) (hx2.drewN m) (hx2.drewN m)
    rw [show decide (x = x) = true from decide_eq_true rfl] at h1 h2 h3
    clear hown hg hnr hf2 hb2 hy2 hx2
    go_wp2_with fail
    refine h1.mono ?_
    rintro e w' ⟨rfl, m, rfl⟩
    clear h1
    go_wp2_with fail
    refine (h2 m).mono ?_
    rintro e w' ⟨rfl, m2, rfl⟩
    rw [World.drewN_drewN]
    clear h2
    go_wp2_with fail
    refine (h3 _).mono ?_
    rintro e w' ⟨rfl, m3, rfl⟩
    clear h3
    go_wp2
    go_ret
    exact ⟨rfl, HB2.out.trans ⟨rfl, rfl, rfl, Nat.le_refl _, fun _ _ => rfl⟩⟩

end Go.Proofs.Ytbckfcndkeoogaa.CSame
