/-
  The package: Put, Yank, Cut.
-/
import Derived.Test.YtgfajagajiofnaaRe
import Derived.Test.YtgfajagajiofnaaRj
import Derived.Deep.CutRange
import Derived.Deep.CutBlock
set_option linter.unusedVariables false
set_option linter.unusedSimpArgs false
set_option maxRecDepth 100000
namespace Go.Proofs.Ytgfajagajiofnaa.Rg
open Go Go.RowKit Go.Proofs.Ytgfajagajiofnaa.Vk Go.Proofs.Ytgfajagajiofnaa.Str Go.Proofs.Ytgfajagajiofnaa.Ln Go.Proofs.Ytgfajagajiofnaa.Cl Go.Proofs.Ytgfajagajiofnaa.Rl
attribute [local go_sem] Oper.semAt_some

theorem SrcV.u8 (w : World) (l : List Nat) (n : Nat) (hn : l.length = n) (hm : n ≤ 1000) : SrcV (w.alloc (.cells (nbs l).toArray TU)) 1 (.slice (some ⟨w.heap.size, 0, none⟩) n n) n (nbs l) := by
  have h := SrcV.lit w (nbs l).toArray TU n (by simp [nbs, hn]) (fun u hu => nbs_one l u (by simpa using hu)) (by simp only [maxLen]; omega)
  simpa using h
theorem Op.from {w X w' : World} {B m b : Nat} {r : Int × ML G} {e : Ending} (h : Op X B m b r e w') (hb : Below w.heap.size w X) : Op w B m b r e w' := ⟨h.1, h.2.1, (Fr.ofBelow hb _).trans h.2.2⟩
theorem tz_jn (g h : G) : tz (jn g h).2 ≤ tz g.2 + tz h.2 := by
  unfold jn
  split
  · show tz (jnl g.2 h.2) ≤ _
    unfold jnl
    split
    · rw [tz_append]
      exact Nat.le_refl _
    · rename_i hne
      obtain ⟨kg, lg⟩ := g
      obtain ⟨kh, lh⟩ := h
      simp only at hne ⊢
      have h1 : 0 < lg.length := List.length_pos_iff.2 fun e => hne (.inl e)
      have h2 : 0 < lh.length := List.length_pos_iff.2 fun e => hne (.inr e)
      have e1 : tz lg = tz (lg.take (lg.length - 1)) + ((lg.getD (lg.length - 1) ⟨#[]⟩).size + 1) := by
        conv => lhs; rw [← List.take_append_drop (lg.length - 1) lg, List.drop_eq_getElem_cons (by omega), tz_append, tz_cons]
        rw [List.drop_of_length_le (by omega), List.getD_eq_getElem?_getD, List.getElem?_eq_getElem (by omega), tz_nil]
        rfl
      have e2 : tz lh = ((lh.getD 0 ⟨#[]⟩).size + 1) + tz (lh.drop 1) := by
        cases lh with
        | nil => simp at h2
        | cons x l => rfl
      rw [tz_append, tz_cons, ByteArray.size_append, e1, e2]
      omega
  · show tz (g.2 ++ h.2) ≤ _
    rw [tz_append]
    exact Nat.le_refl _
theorem reg_cap {c : Nat} (h : 97 ≤ reg c ∧ reg c ≤ 122) (hc : c < 256) : c = reg c ∨ (65 ≤ c ∧ c ≤ 90 ∧ reg c = c + 32) := by
  unfold reg at h ⊢
  split at h
  · omega
  · split at h
    · rename_i h1 h2
      rw [if_neg h1, if_pos h2]
      omega
    · rename_i h1 h2
      rw [if_neg h1, if_neg h2]
      omega
theorem reg_name {c : Nat} : reg c = 34 ↔ c = 0 ∨ c = 34 := by
  unfold reg
  split
  · simp [*]
  · split <;> omega
/-- What set leaves. -/
theorem set_one (k : Int) (a : Option Addr) (n c : Nat) (g : G) (ta : Option Addr) (tn tc : Nat) (ts : List Nat) (B m b : Nat) (L : ML G) (Z : Int × ML G) (w X : World) (hx : El X B (k, a, n, c) g) (ht : SrcV X 1 (.slice ta tn tc) tn (nbs ts)) (hv : ∀ t ∈ ts, vn t)
    (hf : Fls X B m b L) (hok : Ok L) (hs : tz g.2 ≤ 1000000) (hB : B ≤ w.heap.size) (hb : Below w.heap.size w X) (hZ : Z = (if tz g.2 ≤ 4096 then (0, setN L ts g) else (21, L))) : Calls Try.prog 29 #[.pointer (some ⟨m, 0, none⟩), .agg #[.int .i64 k, .slice a n c], .slice ta tn tc] X fun e w' =>
    Op w B m b Z e w' :=
  (set_any k a n c g ta tn tc ts B m b L X hx ht hv hf hok hs (Nat.le_trans hB hb.size)).mono fun e w' h => by rw [hZ]; exact h.from hb

set_option maxHeartbeats 2000000 in
theorem put_any (c : Nat) (k : Int) (a : Option Addr) (n cc : Nat) (g : G) (B m b : Nat) (L : ML G) (w : World) (hx : El w B (k, a, n, cc) g) (hf : Fls w B m b L) (hok : Ok L) (hc : c < 256) (hs : tz g.2 ≤ 50000) (hB : B ≤ w.heap.size) : Calls Try.prog 16 #[.pointer (some ⟨m, 0, none⟩), .int .u8 (c : Int), .agg #[.int .i64 k, .slice a n cc]] w fun e w' => Op w B m b (put L c g) e w' := by
  obtain ⟨w1, hw1⟩ : ∃ w1, w1 = w.alloc (.cells #[.int .i64 k, .slice a n cc] 33) := ⟨_, rfl⟩
  have hb1 : Below w.heap.size w w1 := by rw [hw1]; exact one_below _ _
  have hr1 : RegAt w1 w.heap.size (k, a, n, cc) := by rw [hw1]; exact RegAt.new w (k, a, n, cc)
  have H := Lib.hid (And.intro hw1 (And.intro hb1 (And.intro hr1 (And.intro (hx.below hb1) (And.intro (hf.below hb1) (And.intro hok (And.intro hs (And.intro hB (And.intro hx hf)))))))))
  clear hw1 hb1 hr1 hx hf hok hs hB
  have hrg := fun W => register_any c W hc
  obtain ⟨Z, hZ⟩ : ∃ Z, Z = put L c g := ⟨_, rfl⟩
  rw [← hZ]
  have HC := Lib.hid hc
  have HC2 := Lib.hid (fun h => reg_cap (c := c) h hc)
  unfold put at hZ
  obtain ⟨d, hd⟩ : ∃ d, d = reg c := ⟨_, rfl⟩
  rw [← hd] at hrg hZ HC2
  have hd256 : d < 256 := by rw [hd]; exact reg_lt hc
  have HD := Lib.hid hd
  clear hd
  by_cases hlet : 97 ≤ d ∧ d ≤ 122
  rotate_left
  · rw [if_neg hlet] at hZ
    have HE : Hid (Op w B m b Z (.returned (.int .i64 23)) w1) := ⟨by rw [hZ], by rw [hZ]; exact H.out.2.2.2.2.1, Fr.ofBelow H.out.2.1 _⟩
    clear hZ
    by_cases h1 : d < 97
    · have e1 : (d : Int) < 97 := by omega
      clear hlet h1
      go_enter Try.func16, Try.ntmps16
      go_wp2_with fail
      rw [← H.out.1]
      refine (hrg _).mono ?_
      rintro e w' ⟨rfl, rfl⟩
      go_wp2
      go_ret
      exact HE.out
    · have e1 : ¬ (d : Int) < 97 := by omega
      have e2 : (122 : Int) < (d : Int) := by omega
      clear hlet h1
      go_enter Try.func16, Try.ntmps16
      go_wp2_with fail
      rw [← H.out.1]
      refine (hrg _).mono ?_
      rintro e w' ⟨rfl, rfl⟩
      go_wp2
      go_ret
      exact HE.out
  rw [if_pos hlet] at hZ
  have e1 : ¬ (d : Int) < 97 := by omega
  have e2 : ¬ (122 : Int) < (d : Int) := by omega
  have hvd : ∀ t ∈ [d], vn t := fun t ht => by rw [List.mem_singleton] at ht; subst ht; unfold vn; omega
  obtain ⟨⟨k', a', n', c'⟩, hel, hlk⟩ := H.out.2.2.2.2.1.look hd256
  have hlk := hlk w1 (Below.refl _ _)
  simp only [rv, sv] at hlk
  have hcm := H.out.2.2.2.2.1.cell
  obtain ⟨w2, hw2⟩ : ∃ w2, w2 = w1.alloc (.cells #[.int .i64 k', .slice a' n' c'] 33) := ⟨_, rfl⟩
  have hb2 : Below w1.heap.size w1 w2 := by rw [hw2]; exact one_below _ _
  have hr2 : RegAt w2 w1.heap.size (k', a', n', c') := by rw [hw2]; exact RegAt.new w1 (k', a', n', c')


  have H2 := Lib.hid (And.intro hw2 (And.intro hb2 (And.intro hr2 (And.intro (hel.below hb2) (And.intro hlet hvd)))))
  clear hw2 hb2 hr2 hel hlet hvd
  have FIN := fun (X : World) (k : Int) (a : Option Addr) (n cc : Nat) (r : G) (hZ : Z = (if tz r.2 ≤ 4096 then (0, ins L d r) else (21, L))) (hx : El X B (k, a, n, cc) r) (hr : tz r.2 ≤ 1000000) (hb : Below w.heap.size w X) =>
    set_one k a n cc r (some ⟨X.heap.size, 0, none⟩) 1 1 [d] B m b L Z w (X.alloc (.cells #[.int .u8 (d : Int)] TU)) (hx.below (one_below _ _)) (SrcV.u8 X [d] 1 rfl (by omega)) H2.out.2.2.2.2.2 ((H.out.2.2.2.2.2.2.2.2.2.below hb).below (one_below _ _)) H.out.2.2.2.2.2.1 hr H.out.2.2.2.2.2.2.2.1 (below_on hb (one_below _ _)) hZ
  have hr5 := H.out.2.2.1.below H2.out.2.1 H.out.2.2.1.lt
  have hx2 := H.out.2.2.2.1.below H2.out.2.1
  have hb02 := below_on H.out.2.1 H2.out.2.1
  have hsz := H.out.2.2.2.2.2.2.1
  by_cases hcd : c = d
  · have hpr : pr L c g = g := by unfold pr; rw [if_pos (by rw [← HD.out]; exact hcd)]
    rw [hpr] at hZ
    have F1 := FIN w2 k a n cc g hZ hx2 (by omega) hb02
    have HR := Lib.hid hr5
    clear FIN hZ hx2 hpr hb02 hsz hr5
    have e3 : ((c : Int) == (d : Int)) = true := by rw [beq_iff_eq, hcd]
    cases hq : lk L d with
    | none =>
      rw [hq] at hlk
      simp only [Option.isSome_none] at hlk
      clear hq hcd
      go_enter Try.func16, Try.ntmps16
      go_wp2_with fail
      rw [← H.out.1]
      refine (hrg _).mono ?_
      rintro e w' ⟨rfl, rfl⟩
      clear hrg
      go_upto_region 7 with fail
      rw [← H2.out.1]
      clear hlk hcm
      have p0 := HR.out.c0
      have p1 : w2.cell? ⟨w.heap.size, 1, none⟩ = some (.slice a n cc) := HR.out.c1
      go_wp2_with fail
      refine F1.mono ?_
      rintro e w' ⟨rfl, hf'⟩
      have HF := Lib.hid hf'
      clear F1 hf'
      go_wp2
      go_ret
      exact ⟨rfl, HF.out⟩
    | some h =>
      rw [hq] at hlk
      simp only [Option.isSome_some] at hlk
      clear hq hcd
      go_enter Try.func16, Try.ntmps16
      go_wp2_with fail
      rw [← H.out.1]
      refine (hrg _).mono ?_
      rintro e w' ⟨rfl, rfl⟩
      clear hrg
      go_upto_region 7 with fail
      rw [← H2.out.1]
      clear hlk hcm
      have p0 := HR.out.c0
      have p1 : w2.cell? ⟨w.heap.size, 1, none⟩ = some (.slice a n cc) := HR.out.c1
      go_wp2_with fail
      refine F1.mono ?_
      rintro e w' ⟨rfl, hf'⟩
      have HF := Lib.hid hf'
      clear F1 hf'
      go_wp2
      go_ret
      exact ⟨rfl, HF.out⟩
  · have e3 : ((c : Int) == (d : Int)) = false := by rw [beq_eq_false_iff_ne]; omega
    have hne : ¬ c = reg c := by rw [← HD.out]; exact hcd
    cases hq : lk L d with
    | none =>
      have hpr : pr L c g = g := by unfold pr; rw [if_neg hne, ← HD.out, hq]
      rw [hpr] at hZ
      have F1 := FIN w2 k a n cc g hZ hx2 (by omega) hb02
      have HR := Lib.hid hr5
      rw [hq] at hlk
      simp only [Option.isSome_none] at hlk
      clear FIN hZ hx2 hpr hb02 hsz hr5 hq hcd hne
      go_enter Try.func16, Try.ntmps16
      go_wp2_with fail
      rw [← H.out.1]
      refine (hrg _).mono ?_
      rintro e w' ⟨rfl, rfl⟩
      clear hrg
      go_upto_region 7 with fail
      rw [← H2.out.1]
      clear hlk hcm
      have p0 := HR.out.c0
      have p1 : w2.cell? ⟨w.heap.size, 1, none⟩ = some (.slice a n cc) := HR.out.c1
      go_wp2_with fail
      refine F1.mono ?_
      rintro e w' ⟨rfl, hf'⟩
      have HF := Lib.hid hf'
      clear F1 hf'
      go_wp2
      go_ret
      exact ⟨rfl, HF.out⟩
    | some h =>
      have hpr : pr L c g = jn h g := by unfold pr; rw [if_neg hne, ← HD.out, hq]
      rw [hpr] at hZ
      have hth := (ok_look H.out.2.2.2.2.2.1 hq).2
      have hel2 : El w2 B (k', a', n', c') h := by have h1 := H2.out.2.2.2.1; rw [hq] at h1; exact h1
      have hl1 := tz_ge h.2
      have hl2 := tz_ge g.2
      have htj := tz_jn h g
      have hj := join_any k' a' n' c' h k a n cc g w2 B hel2 hx2 (by omega) (fun s hs => by have := tz_mem _ s hs; omega) (fun s hs => by have := tz_mem _ s hs; omega) (Nat.le_trans H.out.2.2.2.2.2.2.2.1 hb02.size)
      have FIN := fun X k a n cc hx hb => FIN X k a n cc (jn h g) hZ hx (by omega) hb
      have HR := Lib.hid (And.intro hr5 hb02)
      rw [hq] at hlk
      simp only [Option.isSome_some] at hlk
      clear hZ hx2 hpr hb02 hsz hr5 hq hcd hne hth hl1 hl2 htj hel2
      go_enter Try.func16, Try.ntmps16
      go_wp2_with fail
      rw [← H.out.1]
      refine (hrg _).mono ?_
      rintro e w' ⟨rfl, rfl⟩
      clear hrg
      go_upto_region 6 with fail
      rw [← H2.out.1]
      clear hlk hcm
      have p0 := HR.out.1.c0
      have p1 : w2.cell? ⟨w.heap.size, 1, none⟩ = some (.slice a n cc) := HR.out.1.c1
      have q0 := H2.out.2.2.1.c0
      have q1 : w2.cell? ⟨w1.heap.size, 1, none⟩ = some (.slice a' n' c') := H2.out.2.2.1.c1
      go_wp2_with fail
      refine hj.mono ?_
      rintro e u ⟨⟨kz, az, nz, cz⟩, rfl, hez, hbz⟩
      simp only [rv, sv]
      have hru := HR.out.1.below hbz HR.out.1.lt
      have m0 := hru.c0
      have m1 : u.cell? ⟨w.heap.size, 1, none⟩ = some (.slice a n cc) := hru.c1
      have z := hru.z
      have hB := H.out.2.2.2.2.2.2.2.1
      have HE := Lib.hid (And.intro (show RegAt ((u.setCell ⟨w.heap.size, 0, none⟩ (.int .i64 kz)).setCell ⟨w.heap.size, 1, none⟩ (.slice az nz cz)) w.heap.size (kz, az, nz, cz) from hru.set (kz, az, nz, cz)) (And.intro (hez.fr (((Fr.refl (fun j => j = w.heap.size) u).setCell (p := ⟨w.heap.size, 0, none⟩) (fun _ => rfl) (.int .i64 kz)).setCell (p := ⟨w.heap.size, 1, none⟩) (fun _ => rfl) (.slice az nz cz)) (fun j hj hr => hru.ro hB (hj ▸ hr)))
        (((below_on HR.out.2 hbz).setCell (p := ⟨w.heap.size, 0, none⟩) (Nat.le_refl _) (.int .i64 kz)).setCell (p := ⟨w.heap.size, 1, none⟩) (Nat.le_refl _) (.slice az nz cz))))
      have hF := FIN _ kz az nz cz HE.out.2.1 HE.out.2.2
      clear FIN hj hez hru p0 p1 q0 q1 hB hbz
      go_upto_region 7 with fail
      obtain ⟨X, hX⟩ : ∃ X, X = (u.setCell ⟨w.heap.size, 0, none⟩ (.int .i64 kz)).setCell ⟨w.heap.size, 1, none⟩ (.slice az nz cz) := ⟨_, rfl⟩
      simp only [← hX] at HE hF ⊢
      have p0 := HE.out.1.c0
      have p1 : X.cell? ⟨w.heap.size, 1, none⟩ = some (.slice az nz cz) := HE.out.1.c1
      clear hX m0 m1 z
      go_wp2_with fail
      refine hF.mono ?_
      rintro e w' ⟨rfl, hf'⟩
      have HF := Lib.hid hf'
      clear hF hf'
      go_wp2
      go_ret
      exact ⟨rfl, HF.out⟩

theorem put_err {L : ML G} {c : Nat} {g : G} (h : (put L c g).1 ≠ 0) : (put L c g).2 = L := by
  unfold put at h ⊢
  split
  · rename_i h1
    rw [if_pos h1] at h
    split
    · rename_i h2
      rw [if_pos h2] at h
      exact absurd rfl h
    · rfl
  · rfl
set_option maxHeartbeats 2000000 in
theorem yank_any (c : Nat) (k : Int) (a : Option Addr) (n cc : Nat) (g : G) (B m b : Nat) (L : ML G) (w : World) (hx : El w B (k, a, n, cc) g) (hf : Fls w B m b L) (hok : Ok L) (hc : c < 256) (hs : tz g.2 ≤ 50000) (hB : B ≤ w.heap.size) : Calls Try.prog 14 #[.pointer (some ⟨m, 0, none⟩), .int .u8 (c : Int), .agg #[.int .i64 k, .slice a n cc]] w fun e w' => Op w B m b (yank L c g) e w' := by
  obtain ⟨w1, hw1⟩ : ∃ w1, w1 = w.alloc (.cells #[.int .i64 k, .slice a n cc] 33) := ⟨_, rfl⟩
  have hb1 : Below w.heap.size w w1 := by rw [hw1]; exact one_below _ _
  have hr1 : RegAt w1 w.heap.size (k, a, n, cc) := by rw [hw1]; exact RegAt.new w (k, a, n, cc)
  have H := Lib.hid (And.intro hw1 (And.intro hb1 (And.intro hr1 (And.intro (hx.below hb1) (And.intro (hf.below hb1) (And.intro hok (And.intro hs (And.intro hB (And.intro hx hf)))))))))
  clear hw1 hb1 hr1 hx hf hok hs hB
  have hrg := fun W => register_any c W hc
  obtain ⟨Z, hZ⟩ : ∃ Z, Z = yank L c g := ⟨_, rfl⟩
  rw [← hZ]
  unfold yank at hZ
  by_cases h34 : reg c = 34
  · rw [if_pos h34] at hZ
    have hF := fun (hv : ∀ t ∈ [34, 48], vn t) => set_one k a n cc g (some ⟨w1.heap.size, 0, none⟩) 2 2 [34, 48] B m b L Z w (w1.alloc (.cells #[.int .u8 34, .int .u8 48] TU)) (H.out.2.2.2.1.below (one_below _ _)) (SrcV.u8 w1 [34, 48] 2 rfl (by omega)) hv (H.out.2.2.2.2.1.below (one_below _ _)) H.out.2.2.2.2.2.1 (by have := H.out.2.2.2.2.2.2.1; omega) H.out.2.2.2.2.2.2.2.1 (below_on H.out.2.1 (one_below _ _)) hZ
    have hF := hF (fun t ht => by simp only [List.mem_cons, List.not_mem_nil, or_false] at ht; unfold vn; omega)
    clear hZ hrg
    rcases reg_name.1 h34 with h0 | h0
    · subst h0
      clear h34
      go_enter Try.func14, Try.ntmps14
      go_upto_region 4 with fail
      rw [← H.out.1]
      have p0 := H.out.2.2.1.c0
      have p1 : w1.cell? ⟨w.heap.size, 1, none⟩ = some (.slice a n cc) := H.out.2.2.1.c1
      go_wp2_with fail
      refine hF.mono ?_
      rintro e w' ⟨rfl, hf'⟩
      have HF := Lib.hid hf'
      clear hF hf'
      go_wp2
      go_ret
      exact ⟨rfl, HF.out⟩
    · subst h0
      clear h34
      go_enter Try.func14, Try.ntmps14
      go_upto_region 4 with fail
      rw [← H.out.1]
      have p0 := H.out.2.2.1.c0
      have p1 : w1.cell? ⟨w.heap.size, 1, none⟩ = some (.slice a n cc) := H.out.2.2.1.c1
      go_wp2_with fail
      refine hF.mono ?_
      rintro e w' ⟨rfl, hf'⟩
      have HF := Lib.hid hf'
      clear hF hf'
      go_wp2
      go_ret
      exact ⟨rfl, HF.out⟩
  · rw [if_neg h34] at hZ
    have hc0 : ¬ c = 0 := fun e => h34 (reg_name.2 (.inl e))
    have hc34 : ¬ c = 34 := fun e => h34 (reg_name.2 (.inr e))
    have e0 : ((c : Int) == 0) = false := by rw [beq_eq_false_iff_ne]; omega
    have e1 : ((c : Int) == 34) = false := by rw [beq_eq_false_iff_ne]; omega
    clear hc0 hc34 h34
    by_cases h95 : c = 95
    · rw [if_pos h95] at hZ
      have HE : Hid (Op w B m b Z (.returned (.int .i64 0)) w1) := ⟨by rw [hZ], by rw [hZ]; exact H.out.2.2.2.2.1, Fr.ofBelow H.out.2.1 _⟩
      have e2 : ((c : Int) == 95) = true := by rw [beq_iff_eq]; omega
      clear hZ h95
      go_enter Try.func14, Try.ntmps14
      go_wp2
      go_ret
      rw [← H.out.1]
      exact HE.out
    · rw [if_neg h95] at hZ
      have e2 : ((c : Int) == 95) = false := by rw [beq_eq_false_iff_ne]; omega
      clear h95
      have hput := put_any c k a n cc g B m b L w1 H.out.2.2.2.1 H.out.2.2.2.2.1 H.out.2.2.2.2.2.1 hc H.out.2.2.2.2.2.2.1 (Nat.le_trans H.out.2.2.2.2.2.2.2.1 H.out.2.1.size)
      have hokp := ok_put H.out.2.2.2.2.2.1 c g
      have hre := reg_lt hc
      have hpe := @put_err L c g
      obtain ⟨P, hP⟩ : ∃ P, P = put L c g := ⟨_, rfl⟩
      obtain ⟨d, hd⟩ : ∃ d, d = reg c := ⟨_, rfl⟩
      rw [← hP] at hput hokp hpe hZ
      rw [← hd] at hre hrg hZ
      obtain ⟨E, PL⟩ := P
      simp only at hokp hpe hZ
      have HO := Lib.hid (And.intro hokp (And.intro hre hpe))
      clear hP hd hokp hre hpe
      by_cases hE : E = 0
      · subst hE
        rw [if_pos rfl] at hZ
        have HZ := Lib.hid hZ
        have hh := fun W (h : Fls W B m b PL) => hand_any d 34 B m b PL W h HO.out.1 HO.out.2.1 (.inl rfl)
        clear hZ
        go_enter Try.func14, Try.ntmps14
        go_wp2_with fail
        rw [← H.out.1]
        have p0 := H.out.2.2.1.c0
        have p1 : w1.cell? ⟨w.heap.size, 1, none⟩ = some (.slice a n cc) := H.out.2.2.1.c1
        refine hput.mono ?_
        rintro e w2 ⟨rfl, hf2, hfr2⟩
        have H2 := Lib.hid (And.intro hf2 hfr2)
        simp only
        clear hput p0 p1 hf2 hfr2
        go_wp2_with fail
        refine (hrg _).mono ?_
        rintro e w' ⟨rfl, rfl⟩
        clear hrg
        go_wp2_with fail
        refine (hh _ H2.out.1).mono ?_
        rintro e w3 ⟨rfl, hf3, hfr3⟩
        have HE : Hid (Op w B m b Z (.returned (.int .i64 0)) w3) := by rw [HZ.out]; exact ⟨rfl, hf3, ((Fr.ofBelow H.out.2.1 _).trans H2.out.2).trans hfr3⟩
        clear hh hf3 hfr3
        go_wp2
        go_ret
        exact HE.out
      · rw [if_neg hE] at hZ
        have hPL := HO.out.2.2 hE
        subst hPL
        have HZ := Lib.hid hZ
        have e5 : (E == 0) = false := by rw [beq_eq_false_iff_ne]; exact hE
        clear hZ hE
        go_enter Try.func14, Try.ntmps14
        go_wp2_with fail
        rw [← H.out.1]
        refine hput.mono ?_
        rintro e w2 ⟨rfl, hf2, hfr2⟩
        have HE : Hid (Op w B m b Z (.returned (.int .i64 E)) w2) := by rw [HZ.out]; exact ⟨rfl, hf2, (Fr.ofBelow H.out.2.1 _).trans hfr2⟩
        simp only
        clear hput hf2 hfr2
        go_wp2
        go_ret
        exact HE.out

set_option maxHeartbeats 2000000 in
theorem cut_any (c : Nat) (k : Int) (a : Option Addr) (n cc : Nat) (g : G) (B m b : Nat) (L : ML G) (w : World) (hx : El w B (k, a, n, cc) g) (hf : Fls w B m b L) (hok : Ok L) (hc : c < 256) (hs : tz g.2 ≤ 50000) (hB : B ≤ w.heap.size) : Calls Try.prog 18 #[.pointer (some ⟨m, 0, none⟩), .int .u8 (c : Int), .agg #[.int .i64 k, .slice a n cc]] w fun e w' => Op w B m b (cut L c g) e w' := by
  have hgn : g.2.length = n := hx.len
  have hkg : k = g.1 := hx.1
  obtain ⟨w1, hw1⟩ : ∃ w1, w1 = w.alloc (.cells #[.int .i64 k, .slice a n cc] 33) := ⟨_, rfl⟩
  have hb1 : Below w.heap.size w w1 := by rw [hw1]; exact one_below _ _
  have hr1 : RegAt w1 w.heap.size (k, a, n, cc) := by rw [hw1]; exact RegAt.new w (k, a, n, cc)
  have H := Lib.hid (And.intro hw1 (And.intro hb1 (And.intro hr1 (And.intro (hx.below hb1) (And.intro (hf.below hb1) (And.intro hok (And.intro hs (And.intro hB (And.intro hx hf)))))))))
  clear hw1 hb1 hr1 hx hf hok hs hB
  have hrg := fun W => register_any c W hc
  obtain ⟨Z, hZ⟩ : ∃ Z, Z = cut L c g := ⟨_, rfl⟩
  rw [← hZ]
  unfold cut at hZ
  rw [hgn, ← hkg] at hZ
  clear hgn hkg
  by_cases h34 : reg c = 34
  rotate_left
  · rw [if_neg h34] at hZ
    have hy := yank_any c k a n cc g B m b L w1 H.out.2.2.2.1 H.out.2.2.2.2.1 H.out.2.2.2.2.2.1 hc H.out.2.2.2.2.2.2.1 (Nat.le_trans H.out.2.2.2.2.2.2.2.1 H.out.2.1.size)
    rw [← hZ] at hy
    obtain ⟨d, hd⟩ : ∃ d, d = reg c := ⟨_, rfl⟩
    rw [← hd] at hrg h34
    have e0 : ((d : Int) == 34) = false := by rw [beq_eq_false_iff_ne]; omega
    clear hZ hd h34
    go_enter Try.func18, Try.ntmps18
    go_wp2_with fail
    rw [← H.out.1]
    refine (hrg _).mono ?_
    rintro e w' ⟨rfl, rfl⟩
    clear hrg
    have p0 := H.out.2.2.1.c0
    have p1 : w1.cell? ⟨w.heap.size, 1, none⟩ = some (.slice a n cc) := H.out.2.2.1.c1
    go_wp2_with fail
    refine hy.mono ?_
    rintro e w2 hop
    have HOP := Lib.hid (hop.from H.out.2.1)
    obtain ⟨rfl, _⟩ := hop
    clear hy
    go_wp2
    go_ret
    exact HOP.out
  rw [if_pos h34] at hZ
  rw [h34] at hrg
  clear h34
  obtain ⟨Z1, hZ1⟩ : ∃ Z1 : Int × ML G, Z1 = (if tz g.2 ≤ 4096 then (0, setN L [34] g) else (21, L)) := ⟨_, rfl⟩
  have hF := set_one k a n cc g (some ⟨w1.heap.size, 0, none⟩) 1 1 [34] B m b L Z1 w1 (w1.alloc (.cells #[.int .u8 34] TU)) (H.out.2.2.2.1.below (one_below _ _)) (SrcV.u8 w1 [34] 1 rfl (by omega)) (fun t ht => by rw [List.mem_singleton] at ht; subst ht; exact .inl rfl) (H.out.2.2.2.2.1.below (one_below _ _)) H.out.2.2.2.2.2.1 (by have := H.out.2.2.2.2.2.2.1; omega) (Nat.le_trans H.out.2.2.2.2.2.2.2.1 H.out.2.1.size) (one_below _ _) hZ1
  by_cases hbig : tz g.2 ≤ 4096
  rotate_left
  · rw [if_neg hbig] at hZ hZ1
    rw [hZ1, ← hZ] at hF
    have HZ := Lib.hid hZ
    have hZ5 : Z.1 = 21 := by rw [hZ]
    clear hZ1 hbig hZ
    go_enter Try.func18, Try.ntmps18
    go_wp2_with fail
    rw [← H.out.1]
    refine (hrg _).mono ?_
    rintro e w' ⟨rfl, rfl⟩
    clear hrg
    have p0 := H.out.2.2.1.c0
    have p1 : w1.cell? ⟨w.heap.size, 1, none⟩ = some (.slice a n cc) := H.out.2.2.1.c1
    go_wp2_with fail
    refine hF.mono ?_
    rintro e w2 hop
    have HOP := Lib.hid (hop.from H.out.2.1)
    obtain ⟨rfl, _⟩ := hop
    rw [hZ5]
    clear hF
    go_wp2
    go_ret
    have h := HOP.out
    rw [hZ5] at h
    exact h
  have hok1 : Ok (ins L 34 g) := ok_ins H.out.2.2.2.2.2.1 (.inl rfl) hbig
  have hl34 : lk (ins L 34 g) 34 = some g := by rw [look_ins, if_pos rfl]
  rw [if_pos hbig] at hZ hZ1
  rw [hZ1] at hF
  have hF := hF.mono (fun e w' h => (show Op w1 B m b (0, ins L 34 g) e w' from h))
  have HL := Lib.hid (And.intro hok1 (And.intro hl34 hbig))
  clear hZ1 hok1 hl34 hbig
  obtain ⟨L1, hL1⟩ : ∃ L1, L1 = ins L 34 g := ⟨_, rfl⟩
  rw [← hL1] at hF HL hZ
  clear hL1
  by_cases hsm : k ≠ 1 ∧ n ≤ 1
  · rw [if_pos hsm] at hZ
    have hh := fun W (h : Fls W B m b L1) => hand_any 34 45 B m b L1 W h HL.out.1 (by decide) (.inr (.inl rfl))
    rw [hand_some HL.out.2.1] at hh
    have HZ := Lib.hid hZ
    have e1 : (k == 1) = false := by rw [beq_eq_false_iff_ne]; exact hsm.1
    have e2 : (n : Int) ≤ 1 := by omega
    have e3 : (k != 1) = true := by rw [bne_iff_ne]; exact hsm.1
    clear hZ hsm
    go_enter Try.func18, Try.ntmps18
    go_wp2_with fail
    rw [← H.out.1]
    refine (hrg _).mono ?_
    rintro e w' ⟨rfl, rfl⟩
    clear hrg
    have p0 := H.out.2.2.1.c0
    have p1 : w1.cell? ⟨w.heap.size, 1, none⟩ = some (.slice a n cc) := H.out.2.2.1.c1
    go_wp2_with fail
    refine hF.mono ?_
    rintro e w2 ⟨rfl, hf2, hfr2⟩
    have hr2 := H.out.2.2.1.fr hfr2 (H.out.2.2.2.2.1.reg_ne H.out.2.2.1)
    have p0 := hr2.c0
    have p1 : w2.cell? ⟨w.heap.size, 1, none⟩ = some (.slice a n cc) := hr2.c1
    have H2 := Lib.hid (And.intro hf2 ((Fr.ofBelow H.out.2.1 (fun j => j = b)).trans hfr2))
    simp only
    clear hF hf2 hfr2 hr2
    go_wp2_with fail
    refine (hh _ H2.out.1).mono ?_
    rintro e w3 ⟨rfl, hf3, hfr3⟩
    have HE : Hid (Op w B m b Z (.returned (.int .i64 0)) w3) := by rw [HZ.out]; exact ⟨rfl, hf3, H2.out.2.trans hfr3⟩
    clear hh hf3 hfr3
    go_wp2
    go_ret
    exact HE.out
  · rw [if_neg hsm] at hZ
    have HZ := Lib.hid hZ
    have hh := fun W (h : Fls W B m b (dn L1 8)) => hand_any 34 49 B m b (dn L1 8) W h (ok_dn HL.out.1 8 (by omega)) (by decide) (by unfold vn; omega)
    have hl8 : lk (dn L1 8) 34 = some g := by rw [look_dn _ 8 (by omega), if_neg (by omega)]; exact HL.out.2.1
    rw [hand_some hl8] at hh
    have HH := Lib.hid hh
    clear hZ hl8 hh
    have e1 : (k == 1) = true ∨ ((k == 1) = false ∧ ¬ (n : Int) ≤ 1) := by
      by_cases hk : k = 1
      · exact .inl (by rw [beq_iff_eq]; exact hk)
      · exact .inr ⟨by rw [beq_eq_false_iff_ne]; exact hk, fun h => hsm ⟨hk, by omega⟩⟩
    clear hsm
    have H1 := Lib.hid e1
    clear e1
    go_enter Try.func18, Try.ntmps18
    go_wp2_with fail
    rw [← H.out.1]
    refine (hrg _).mono ?_
    rintro e w' ⟨rfl, rfl⟩
    clear hrg
    have p0 := H.out.2.2.1.c0
    have p1 : w1.cell? ⟨w.heap.size, 1, none⟩ = some (.slice a n cc) := H.out.2.2.1.c1
    go_wp2_with fail
    refine hF.mono ?_
    rintro e w2 ⟨rfl, hf2, hfr2⟩
    have hr2 := H.out.2.2.1.fr hfr2 (H.out.2.2.2.2.1.reg_ne H.out.2.2.1)
    have p0 := hr2.c0
    have p1 : w2.cell? ⟨w.heap.size, 1, none⟩ = some (.slice a n cc) := hr2.c1
    have H2 := Lib.hid (And.intro hf2 ((Fr.ofBelow H.out.2.1 (fun j => j = b)).trans hfr2))
    simp only
    clear hF hf2 hfr2 hr2
    rcases H1.out with e1 | ⟨e1, e2⟩
    · have hk1 : k = 1 := by simpa using e1
      subst hk1
      clear e1 H1
      go_wp2
      go_loopw [8] (fun u wr => ∃ d j : Nat, d + j = 57 ∧ 49 ≤ d ∧ u = .int .u8 (d : Int) ∧ Hid (Fls wr B m b (dn L1 j) ∧ Fr (fun j => j = b) w wr)) (fun u _ => (RowKit.intOf u).toNat)
      case atStart => exact ⟨57, 0, rfl, by omega, rfl, H2.out⟩
      case round =>
        obtain ⟨d, j, hdj, hd49, rfl, HR⟩ := hrel
        by_cases hd : 49 < d
        · have hhd := fun W (h : Fls W B m b (dn L1 j)) => hand_any (d - 1) d B m b (dn L1 j) W h (ok_dn HL.out.1 j (by omega)) (by omega) (by unfold vn; omega)
          have HN := Lib.hid (show dn L1 (j + 1) = hand (dn L1 j) (d - 1) d by show hand (dn L1 j) (56 - j) (57 - j) = _; rw [show 56 - j = d - 1 by omega, show 57 - j = d by omega])
          have hw : IntKind.u8.wrap ((d : Int) - 1) = ((d - 1 : Nat) : Int) := by rw [IntKind.wrap_u8]; omega
          obtain ⟨f, hf⟩ : ∃ f, f = d - 1 := ⟨_, rfl⟩
          rw [← hf] at hhd hw HN
          have HFD := Lib.hid (And.intro hf hdj)
          have e6 : (49 : Int) < (d : Int) := by omega
          clear hf hdj hd hd49
          go_wp2_with fail
          refine (hhd _ HR.out.1).mono ?_
          rintro e w4 ⟨rfl, hf4, hfr4⟩
          have HE : Hid (Fls w4 B m b (dn L1 (j + 1)) ∧ Fr (fun j => j = b) w w4) := by rw [HN.out]; exact ⟨hf4, HR.out.2.trans hfr4⟩
          clear hhd hf4 hfr4
          go_wp2
          go_roundw
          case rel => exact ⟨f, j + 1, by have := HFD.out; omega, by have := HFD.out; omega, by go_num, HE⟩
          case measure => have := HFD.out; simp [RowKit.intOf]; omega
        · obtain rfl : d = 49 := by omega
          obtain rfl : j = 8 := by omega
          clear hdj hd49 hd
          go_wp2_with fail
          refine (HH.out _ HR.out.1).mono ?_
          rintro e w4 ⟨rfl, hf4, hfr4⟩
          have HE : Hid (Op w B m b Z (.returned (.int .i64 0)) w4) := by rw [HZ.out]; exact ⟨rfl, hf4, HR.out.2.trans hfr4⟩
          clear hf4 hfr4
          go_wp2
          go_ret
          exact HE.out
    · clear H1
      have e3 : (k != 1) = true := by rw [bne_iff_ne]; simpa using e1
      go_wp2
      go_loopw [8] (fun u wr => ∃ d j : Nat, d + j = 57 ∧ 49 ≤ d ∧ u = .int .u8 (d : Int) ∧ Hid (Fls wr B m b (dn L1 j) ∧ Fr (fun j => j = b) w wr)) (fun u _ => (RowKit.intOf u).toNat)
      case atStart => exact ⟨57, 0, rfl, by omega, rfl, H2.out⟩
      case round =>
        obtain ⟨d, j, hdj, hd49, rfl, HR⟩ := hrel
        by_cases hd : 49 < d
        · have hhd := fun W (h : Fls W B m b (dn L1 j)) => hand_any (d - 1) d B m b (dn L1 j) W h (ok_dn HL.out.1 j (by omega)) (by omega) (by unfold vn; omega)
          have HN := Lib.hid (show dn L1 (j + 1) = hand (dn L1 j) (d - 1) d by show hand (dn L1 j) (56 - j) (57 - j) = _; rw [show 56 - j = d - 1 by omega, show 57 - j = d by omega])
          have hw : IntKind.u8.wrap ((d : Int) - 1) = ((d - 1 : Nat) : Int) := by rw [IntKind.wrap_u8]; omega
          obtain ⟨f, hf⟩ : ∃ f, f = d - 1 := ⟨_, rfl⟩
          rw [← hf] at hhd hw HN
          have HFD := Lib.hid (And.intro hf hdj)
          have e6 : (49 : Int) < (d : Int) := by omega
          clear hf hdj hd hd49
          go_wp2_with fail
          refine (hhd _ HR.out.1).mono ?_
          rintro e w4 ⟨rfl, hf4, hfr4⟩
          have HE : Hid (Fls w4 B m b (dn L1 (j + 1)) ∧ Fr (fun j => j = b) w w4) := by rw [HN.out]; exact ⟨hf4, HR.out.2.trans hfr4⟩
          clear hhd hf4 hfr4
          go_wp2
          go_roundw
          case rel => exact ⟨f, j + 1, by have := HFD.out; omega, by have := HFD.out; omega, by go_num, HE⟩
          case measure => have := HFD.out; simp [RowKit.intOf]; omega
        · obtain rfl : d = 49 := by omega
          obtain rfl : j = 8 := by omega
          clear hdj hd49 hd
          go_wp2_with fail
          refine (HH.out _ HR.out.1).mono ?_
          rintro e w4 ⟨rfl, hf4, hfr4⟩
          have HE : Hid (Op w B m b Z (.returned (.int .i64 0)) w4) := by rw [HZ.out]; exact ⟨rfl, hf4, HR.out.2.trans hfr4⟩
          clear hf4 hfr4
          go_wp2
          go_ret
          exact HE.out
end Go.Proofs.Ytgfajagajiofnaa.Rg
