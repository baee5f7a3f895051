/-
  The document's Put, Yank, Cut.
-/
import Derived.Test.YtgfajagajiofnaaRk
import Derived.Test.YtgfajagajiofnaaRg
import Derived.Deep.CutRange
import Derived.Deep.CutBlock
set_option linter.unusedVariables false
set_option linter.unusedSimpArgs false
set_option maxRecDepth 100000
namespace Go.Proofs.Ytgfajagajiofnaa.Rg
open Go Go.RowKit Go.Proofs.Ytgfajagajiofnaa.Vk Go.Proofs.Ytgfajagajiofnaa.Str Go.Proofs.Ytgfajagajiofnaa.Ln Go.Proofs.Ytgfajagajiofnaa.Cl Go.Proofs.Ytgfajagajiofnaa.Rl
attribute [local go_sem] Oper.semAt_some

/-- The document's registers, told by what they are. -/
def Rfg (w : World) (B r : Nat) (L : ML G) : Prop := ∃ RL, Rfs w B r RL ∧ Tl (El w B) RL L
theorem Rfs.ro {w : World} {B r : Nat} {L : ML R} (h : Rfs w B r L) : ∀ k, RBlk w r k → ¬ Ro w B k := fun k hk hr => by
  obtain ⟨h1, _, cs, t, e, ht⟩ := h.blk hk
  rcases hr with hr | ⟨cs', fr, hr⟩
  · omega
  · rw [hr] at e
    simp only [Option.some.injEq, Obj.cells.injEq] at e
    rcases ht with rfl | rfl | rfl <;> exact absurd e.2.1 (by decide)
theorem Rfg.ro {w : World} {B r : Nat} {L : ML G} (h : Rfg w B r L) : ∀ k, RBlk w r k → ¬ Ro w B k := by
  obtain ⟨RL, h1, _⟩ := h
  exact h1.ro
theorem Rfg.rlt {w : World} {B r k : Nat} {L : ML G} (h : Rfg w B r L) (hk : RBlk w r k) : k < w.heap.size := by
  obtain ⟨RL, h1, _⟩ := h
  exact (h1.blk hk).2.1
theorem Rfg.lt {w : World} {B r : Nat} {L : ML G} (h : Rfg w B r L) : r < w.heap.size := h.rlt (.inl rfl)
theorem Rfg.fr {S : Nat → Prop} {w w' : World} {B r : Nat} {L : ML G} (h : Rfg w B r L) (hf : Fr S w w') (hs : ∀ k, RBlk w r k → ¬ S k) (hr : ∀ k, S k → ¬ Ro w B k) : Rfg w' B r L := by
  obtain ⟨RL, h1, h2⟩ := h
  exact ⟨RL, h1.fr hf hs, h2.mono fun x g he => he.fr hf hr⟩
theorem Rfg.below {w w' : World} {B r : Nat} {L : ML G} (h : Rfg w B r L) (hb : Below w.heap.size w w') : Rfg w' B r L := h.fr (Fr.ofBelow hb (fun _ => False)) (fun _ _ h => h) (fun _ h => h.elim)
/-- From one world to another the document's blocks alone are written. -/
def Dfr (r : Nat) (w w' : World) : Prop := Fr (RBlk w r) w w' ∧ ∀ i, RBlk w' r i → RBlk w r i ∨ w.heap.size ≤ i
theorem Dfr.trans {r : Nat} {a b c : World} (h1 : Dfr r a b) (h2 : Dfr r b c) : Dfr r a c :=
  ⟨h1.1.trans' h2.1 (fun i hi hs => (h1.2 i hs).resolve_right (by omega)), fun i hi => (h2.2 i hi).elim (fun h => h1.2 i h) (fun h => .inr (by have := h1.1.size; omega))⟩
theorem Dfr.below {r : Nat} {w w' : World} (hb : Below w.heap.size w w') (hr : r < w.heap.size) : Dfr r w w' := ⟨Fr.ofBelow hb _, fun i hi => .inl (hi.back (hb.block r hr))⟩
theorem El.dfr {w w' : World} {B r : Nat} {L : ML G} {x : R} {g : G} (h : El w B x g) (hd : Dfr r w w') (hr : Rfg w B r L) : El w' B x g := h.fr hd.1 hr.ro
/-- What a call on the document's registers makes. -/
def OpD (w : World) (B r : Nat) (res : Int × ML G) (e : Ending) (w' : World) : Prop := e = .returned (.int .i64 res.1) ∧ Rfg w' B r res.2 ∧ Dfr r w w'
theorem OpD.from {w X w' : World} {B r : Nat} {res : Int × ML G} {e : Ending} (h : OpD X B r res e w') (hb : Dfr r w X) : OpD w B r res e w' := ⟨h.1, h.2.1, hb.trans h.2.2⟩

theorem get19_any (c : Nat) (B r : Nat) (L : ML G) (w : World) (hf : Rfg w B r L) (hok : Ok L) (hc : c < 256) : Calls Try.prog 22 #[.pointer (some ⟨r, 0, none⟩), .int .u8 (c : Int)] w fun e w' =>
    RbOut w B (gz (lk L (reg c))) (lk L (reg c)).isSome e w' := by
  obtain ⟨RL, h1, h2⟩ := hf
  refine (get19_raw r B RL c w h1 hc (by rw [h2.length]; exact length_ok hok)).mono ?_
  rintro e w' ⟨rfl, hb⟩
  rcases h2.look (reg c) with ⟨e1, e2⟩ | ⟨x, g, e1, e2, hp⟩
  · rw [e1, e2]
    exact ⟨(0, none, 0, 0), rfl, El.nil _ _, hb⟩
  · rw [e1, e2]
    exact ⟨x, rfl, hp.below hb, hb⟩
theorem set19_any (c : Nat) (k : Int) (a : Option Addr) (n cc : Nat) (g : G) (B r : Nat) (L : ML G) (w : World) (hx : El w B (k, a, n, cc) g) (hf : Rfg w B r L) (hok : Ok L) (hB : B ≤ w.heap.size) : Calls Try.prog 32 #[.pointer (some ⟨r, 0, none⟩), .int .u8 (c : Int), .agg #[.int .i64 k, .slice a n cc]] w fun e w' =>
    e = .returned (.tuple #[]) ∧ Rfg w' B r (ins L c g) ∧ Dfr r w w' := by
  obtain ⟨RL, h1, h2⟩ := hf
  refine (set19_raw r B RL c k a n cc w h1 (by rw [h2.length]; exact length_ok hok) hB).mono ?_
  rintro e w' ⟨rfl, hr, hfr, hn⟩
  exact ⟨rfl, ⟨_, hr, (h2.ins c hx).mono fun x g he => he.fr hfr h1.ro⟩, hfr, hn⟩
theorem put_ok {L : ML G} {c : Nat} {g : G} (h : (put L c g).1 = 0) : (put L c g).2 = ins L (reg c) (pr L c g) ∧ lk (put L c g).2 (reg c) = some (pr L c g) := by
  unfold put at h ⊢
  split
  · rename_i h1
    rw [if_pos h1] at h
    split
    · exact ⟨rfl, by show lk (ins L (reg c) (pr L c g)) (reg c) = _; rw [look_ins, if_pos rfl]⟩
    · rename_i h2
      rw [if_neg h2] at h
      exact absurd (show (21 : Int) = 0 from h) (by decide)
  · rename_i h1
    rw [if_neg h1] at h
    exact absurd (show (23 : Int) = 0 from h) (by decide)

set_option maxHeartbeats 2000000 in
theorem put19_any (c : Nat) (k : Int) (a : Option Addr) (n cc : Nat) (g : G) (B r : Nat) (L : ML G) (w : World) (hx : El w B (k, a, n, cc) g) (hf : Rfg w B r L) (hok : Ok L) (hc : c < 256) (hs : tz g.2 ≤ 50000) (hB : B ≤ w.heap.size) : Calls Try.prog 17 #[.pointer (some ⟨r, 0, none⟩), .int .u8 (c : Int), .agg #[.int .i64 k, .slice a n cc]] w fun e w' => OpD w B r (put L c g) e w' := by
  obtain ⟨w1, hw1⟩ : ∃ w1, w1 = w.alloc (.cells #[.int .i64 k, .slice a n cc] 33) := ⟨_, rfl⟩
  have hb1 : Below w.heap.size w w1 := by rw [hw1]; exact one_below _ _
  have hr1 : RegAt w1 w.heap.size (k, a, n, cc) := by rw [hw1]; exact RegAt.new w (k, a, n, cc)
  have hnr : ¬ RBlk w1 r w.heap.size := fun hk => by have := hf.rlt (hk.back (hb1.block r hf.lt)); omega
  have H := Lib.hid (And.intro hw1 (And.intro hb1 (And.intro hr1 (And.intro (hx.below hb1) (And.intro (hf.below hb1) (And.intro hok (And.intro hs (And.intro (Nat.le_trans hB hb1.size) (And.intro (Dfr.below hb1 hf.lt) (And.intro hnr (And.intro hB hf.lt)))))))))))
  clear hw1 hb1 hr1 hx hf hok hs hB hnr
  obtain ⟨Z, hZ⟩ : ∃ Z, Z = put L c g := ⟨_, rfl⟩
  rw [← hZ]
  unfold put at hZ
  obtain ⟨d, hd⟩ : ∃ d, d = reg c := ⟨_, rfl⟩
  rw [← hd] at hZ
  have hre : d = if c = 0 then 34 else if 65 ≤ c ∧ c ≤ 90 then c + 32 else c := hd
  by_cases hcap : 65 ≤ c ∧ c ≤ 90
  · rw [if_neg (by omega), if_pos hcap] at hre
    rw [if_pos (by omega)] at hZ
    have hne : ¬ c = d := by omega
    have e1 : (65 : Int) ≤ (c : Int) := by omega
    have e2 : (c : Int) ≤ 90 := by omega
    have v1 : IntKind.u8.wrap ((c : Int) + 32) = (d : Int) := by rw [IntKind.wrap_u8]; omega
    have hg := get19_any c B r L w1 H.out.2.2.2.2.1 H.out.2.2.2.2.2.1 hc
    rw [← hd] at hg
    have HPN := Lib.hid (show lk L d = none → pr L c g = g from fun hq => by unfold pr; rw [← hd, if_neg hne, hq])
    have HPS := Lib.hid (show ∀ h, lk L d = some h → pr L c g = jn h g from fun h hq => by unfold pr; rw [← hd, if_neg hne, hq])
    clear hd hre hne hcap
    cases hq : lk L d with
    | none =>
      have HP2 := Lib.hid (HPN.out hq)
      rw [HP2.out] at hZ
      rw [hq] at hg
      simp only [Option.isSome_none] at hg
      clear hq HPN HPS
      go_enter Try.func17, Try.ntmps17
      go_wp2_with fail
      rw [← H.out.1]
      refine hg.mono ?_
      rintro e w2 ⟨⟨k', a', n', c'⟩, rfl, hel, hb2⟩
      simp only [rv, sv]
      clear hg
      go_upto_region 8 with fail
      obtain ⟨w3, hw3⟩ : ∃ w3, w3 = w2.alloc (.cells #[.int .i64 k', .slice a' n' c'] 33) := ⟨_, rfl⟩
      have hb3 : Below w2.heap.size w2 w3 := by rw [hw3]; exact one_below _ _
      have hr7 : RegAt w3 w2.heap.size (k', a', n', c') := by rw [hw3]; exact RegAt.new w2 (k', a', n', c')
      rw [← hw3]
      have hb03 := below_on hb2 hb3
      have hr3 := H.out.2.2.1.below hb03 H.out.2.2.1.lt
      have hel3 := hel.below hb3
      clear hw3 hb2 hb3 hel
      have HV3 := Lib.hid (And.intro hb03 hr3)
      clear hb03 hr3 hr7 hel3
      have p0 := HV3.out.2.c0
      have p1 : w3.cell? ⟨w.heap.size, 1, none⟩ = some (.slice a n cc) := HV3.out.2.c1
      have hsz := size5_any a n cc g.2 w3 (H.out.2.2.2.1.below HV3.out.1).2.1 (by have := (show tz g.2 ≤ 1000000 by have := H.out.2.2.2.2.2.2.1; omega); omega)
      have hst := set19_any d k a n cc g B r L w3 (H.out.2.2.2.1.below HV3.out.1) (H.out.2.2.2.2.1.below HV3.out.1) H.out.2.2.2.2.2.1 (Nat.le_trans H.out.2.2.2.2.2.2.2.2.2.2.1 (H.out.2.2.2.2.2.2.2.2.1.trans (Dfr.below HV3.out.1 H.out.2.2.2.2.1.lt)).1.size)
      go_wp2_with fail
      refine hsz.mono ?_
      rintro e w' ⟨rfl, rfl⟩
      clear hsz
      obtain ⟨T, hT⟩ : ∃ T, T = tz g.2 := ⟨_, rfl⟩
      rw [← hT] at hZ
      rw [← hT]
      have hT63 : T ≤ 1000000 := by rw [hT]; exact (show tz g.2 ≤ 1000000 by have := H.out.2.2.2.2.2.2.1; omega)
      clear hT
      by_cases hbig : T ≤ 4096
      · rw [if_pos hbig] at hZ
        have e9 : ¬ (4096 : Int) < (T : Int) := by omega
        have HZ := Lib.hid hZ
        clear hZ hbig hT63
        go_wp2_with fail
        refine hst.mono ?_
        rintro e w9 ⟨rfl, hf9, hd9⟩
        have HE : Hid (OpD w B r Z (.returned (.int .i64 0)) w9) := by rw [HZ.out]; exact ⟨rfl, hf9, (H.out.2.2.2.2.2.2.2.2.1.trans (Dfr.below HV3.out.1 H.out.2.2.2.2.1.lt)).trans hd9⟩
        clear hst hf9 hd9
        go_wp2
        go_ret
        exact HE.out
      · rw [if_neg hbig] at hZ
        have e9 : (4096 : Int) < (T : Int) := by omega
        have HE : Hid (OpD w B r Z (.returned (.int .i64 21)) w3) := by rw [hZ]; exact ⟨rfl, H.out.2.2.2.2.1.below HV3.out.1, H.out.2.2.2.2.2.2.2.2.1.trans (Dfr.below HV3.out.1 H.out.2.2.2.2.1.lt)⟩
        clear hst hZ hbig hT63
        go_wp2
        go_ret
        exact HE.out
    | some h =>
      have HP2 := Lib.hid (HPS.out h hq)
      rw [HP2.out] at hZ
      have hth := (ok_look H.out.2.2.2.2.2.1 hq).2
      have htj := tz_jn h g
      have hl1 := tz_ge h.2
      have hl2 := tz_ge g.2
      have hsg := H.out.2.2.2.2.2.2.1
      rw [hq] at hg
      simp only [Option.isSome_some] at hg
      have hbnd : tz (jn h g).2 ≤ 1000000 := by omega
      have hjj := fun (W : World) (k' : Int) (a' : Option Addr) (n' c' : Nat) (h1 : El W B (k', a', n', c') h) (h2 : El W B (k, a, n, cc) g) (hB : B ≤ W.heap.size) => join19_any k' a' n' c' h k a n cc g W B h1 h2 (by omega) (fun s hs => by have := tz_mem _ s hs; omega) (fun s hs => by have := tz_mem _ s hs; omega) hB
      clear hq HPN HPS hth htj hl1 hl2 hsg
      go_enter Try.func17, Try.ntmps17
      go_wp2_with fail
      rw [← H.out.1]
      refine hg.mono ?_
      rintro e w2 ⟨⟨k', a', n', c'⟩, rfl, hel, hb2⟩
      simp only [rv, sv]
      clear hg
      go_upto_region 4 with fail
      obtain ⟨w3, hw3⟩ : ∃ w3, w3 = w2.alloc (.cells #[.int .i64 k', .slice a' n' c'] 33) := ⟨_, rfl⟩
      have hb3 : Below w2.heap.size w2 w3 := by rw [hw3]; exact one_below _ _
      have hr7 : RegAt w3 w2.heap.size (k', a', n', c') := by rw [hw3]; exact RegAt.new w2 (k', a', n', c')
      rw [← hw3]
      have hb03 := below_on hb2 hb3
      have hr3 := H.out.2.2.1.below hb03 H.out.2.2.1.lt
      have hel3 := hel.below hb3
      clear hw3 hb2 hb3 hel
      have HK3 := Lib.hid (And.intro hr3 (And.intro hb03 hel3))
      have hr7 : RegAt w3 w2.heap.size (k', a', n', c') := hr7
      have p0 := hr3.c0
      have p1 : w3.cell? ⟨w.heap.size, 1, none⟩ = some (.slice a n cc) := hr3.c1
      have q0 := hr7.c0
      have q1 : w3.cell? ⟨w2.heap.size, 1, none⟩ = some (.slice a' n' c') := hr7.c1
      have hj := hjj w3 k' a' n' c' hel3 (H.out.2.2.2.1.below hb03) (Nat.le_trans H.out.2.2.2.2.2.2.2.1 hb03.size)
      clear hjj hr3 hel3 hr7 hb03
      go_wp2_with fail
      refine hj.mono ?_
      rintro e u ⟨⟨kz, az, nz, cz⟩, rfl, hez, hbz⟩
      simp only [rv, sv]
      have hru := HK3.out.1.below hbz HK3.out.1.lt
      have m0 := hru.c0
      have m1 : u.cell? ⟨w.heap.size, 1, none⟩ = some (.slice a n cc) := hru.c1
      have z := hru.z
      have hB := H.out.2.2.2.2.2.2.2.2.2.2.1
      have hbX := (((below_on H.out.2.1 (below_on HK3.out.2.1 hbz)).setCell (p := ⟨w.heap.size, 0, none⟩) (Nat.le_refl _) (.int .i64 kz)).setCell (p := ⟨w.heap.size, 1, none⟩) (Nat.le_refl _) (.slice az nz cz))
      have hfX := (((Fr.refl (fun j => j = w.heap.size) u).setCell (p := ⟨w.heap.size, 0, none⟩) (fun _ => rfl) (.int .i64 kz)).setCell (p := ⟨w.heap.size, 1, none⟩) (fun _ => rfl) (.slice az nz cz))
      have heX := hez.fr hfX (fun j hj hr => hru.ro hB (hj ▸ hr))
      have hrX : RegAt ((u.setCell ⟨w.heap.size, 0, none⟩ (.int .i64 kz)).setCell ⟨w.heap.size, 1, none⟩ (.slice az nz cz)) w.heap.size (kz, az, nz, cz) := hru.set (kz, az, nz, cz)
      have hfr1 := (Fr.ofBelow (below_on HK3.out.2.1 hbz) (fun j => j = w.heap.size)).trans hfX
      have hdX := Dfr.below hbX H.out.2.2.2.2.2.2.2.2.2.2.2
      have hgX := H.out.2.2.2.2.1.fr hfr1 (fun k hk e => H.out.2.2.2.2.2.2.2.2.2.1 (e ▸ hk)) (fun j hj hr => H.out.2.2.1.ro hB (hj ▸ hr))
      clear hj hez hru p0 p1 q0 q1 hbz hfX hB hfr1
      go_upto_region 8 with fail
      obtain ⟨X, hX⟩ : ∃ X, X = (u.setCell ⟨w.heap.size, 0, none⟩ (.int .i64 kz)).setCell ⟨w.heap.size, 1, none⟩ (.slice az nz cz) := ⟨_, rfl⟩
      rw [← hX] at heX hrX hdX hgX
      rw [← hX]
      have HX := Lib.hid (And.intro heX (And.intro hrX (And.intro hdX hgX)))
      clear hX m0 m1 z heX hrX hdX hgX hbX
      have p0 := HX.out.2.1.c0
      have p1 : X.cell? ⟨w.heap.size, 1, none⟩ = some (.slice az nz cz) := HX.out.2.1.c1
      have hsz := size5_any az nz cz (jn h g).2 X (HX.out.1).2.1 (by have := hbnd; omega)
      have hst := set19_any d kz az nz cz (jn h g) B r L X (HX.out.1) (HX.out.2.2.2) H.out.2.2.2.2.2.1 (Nat.le_trans H.out.2.2.2.2.2.2.2.2.2.2.1 (HX.out.2.2.1).1.size)
      go_wp2_with fail
      refine hsz.mono ?_
      rintro e w' ⟨rfl, rfl⟩
      clear hsz
      obtain ⟨T, hT⟩ : ∃ T, T = tz (jn h g).2 := ⟨_, rfl⟩
      rw [← hT] at hZ
      rw [← hT]
      have hT63 : T ≤ 1000000 := by rw [hT]; exact hbnd
      clear hT
      by_cases hbig : T ≤ 4096
      · rw [if_pos hbig] at hZ
        have e9 : ¬ (4096 : Int) < (T : Int) := by omega
        have HZ := Lib.hid hZ
        clear hZ hbig hT63
        go_wp2_with fail
        refine hst.mono ?_
        rintro e w9 ⟨rfl, hf9, hd9⟩
        have HE : Hid (OpD w B r Z (.returned (.int .i64 0)) w9) := by rw [HZ.out]; exact ⟨rfl, hf9, (HX.out.2.2.1).trans hd9⟩
        clear hst hf9 hd9
        go_wp2
        go_ret
        exact HE.out
      · rw [if_neg hbig] at hZ
        have e9 : (4096 : Int) < (T : Int) := by omega
        have HE : Hid (OpD w B r Z (.returned (.int .i64 21)) X) := by rw [hZ]; exact ⟨rfl, HX.out.2.2.2, HX.out.2.2.1⟩
        clear hst hZ hbig hT63
        go_wp2
        go_ret
        exact HE.out
  · have e1 : ¬ (65 : Int) ≤ (c : Int) ∨ ((65 : Int) ≤ (c : Int) ∧ ¬ (c : Int) ≤ 90) := by omega
    by_cases hlet : 97 ≤ c ∧ c ≤ 122
    · rw [if_neg (by omega), if_neg hcap] at hre
      rw [if_pos (by omega)] at hZ
      have HP2 := Lib.hid (show pr L c g = g by unfold pr; rw [if_pos (by omega)])
      rw [HP2.out] at hZ
      have e3 : ¬ (c : Int) < 97 := by omega
      have e4 : ¬ (122 : Int) < (c : Int) := by omega
      have e5 : (65 : Int) ≤ (c : Int) := by omega
      have e6 : ¬ (c : Int) ≤ 90 := by omega
      subst hre
      clear hd hcap e1 hlet
      go_enter Try.func17, Try.ntmps17
      go_upto_region 8 with fail
      rw [← H.out.1]
      have p0 := H.out.2.2.1.c0
      have p1 : w1.cell? ⟨w.heap.size, 1, none⟩ = some (.slice a n cc) := H.out.2.2.1.c1
      have hsz := size5_any a n cc g.2 w1 (H.out.2.2.2.1).2.1 (by have := (show tz g.2 ≤ 1000000 by have := H.out.2.2.2.2.2.2.1; omega); omega)
      have hst := set19_any d k a n cc g B r L w1 (H.out.2.2.2.1) (H.out.2.2.2.2.1) H.out.2.2.2.2.2.1 (Nat.le_trans H.out.2.2.2.2.2.2.2.2.2.2.1 (H.out.2.2.2.2.2.2.2.2.1).1.size)
      go_wp2_with fail
      refine hsz.mono ?_
      rintro e w' ⟨rfl, rfl⟩
      clear hsz
      obtain ⟨T, hT⟩ : ∃ T, T = tz g.2 := ⟨_, rfl⟩
      rw [← hT] at hZ
      rw [← hT]
      have hT63 : T ≤ 1000000 := by rw [hT]; exact (show tz g.2 ≤ 1000000 by have := H.out.2.2.2.2.2.2.1; omega)
      clear hT
      by_cases hbig : T ≤ 4096
      · rw [if_pos hbig] at hZ
        have e9 : ¬ (4096 : Int) < (T : Int) := by omega
        have HZ := Lib.hid hZ
        clear hZ hbig hT63
        go_wp2_with fail
        refine hst.mono ?_
        rintro e w9 ⟨rfl, hf9, hd9⟩
        have HE : Hid (OpD w B r Z (.returned (.int .i64 0)) w9) := by rw [HZ.out]; exact ⟨rfl, hf9, (H.out.2.2.2.2.2.2.2.2.1).trans hd9⟩
        clear hst hf9 hd9
        go_wp2
        go_ret
        exact HE.out
      · rw [if_neg hbig] at hZ
        have e9 : (4096 : Int) < (T : Int) := by omega
        have HE : Hid (OpD w B r Z (.returned (.int .i64 21)) w1) := by rw [hZ]; exact ⟨rfl, H.out.2.2.2.2.1, H.out.2.2.2.2.2.2.2.2.1⟩
        clear hst hZ hbig hT63
        go_wp2
        go_ret
        exact HE.out
    · have hnl : ¬ (97 ≤ d ∧ d ≤ 122) := by
        rw [hre]
        split
        · omega
        · rename_i h0
          first | (rw [if_neg hcap]; exact hlet) | exact hlet
      rw [if_neg hnl] at hZ
      have HE : Hid (OpD w B r Z (.returned (.int .i64 23)) w1) := by rw [hZ]; exact ⟨rfl, H.out.2.2.2.2.1, H.out.2.2.2.2.2.2.2.2.1⟩
      have e3 : (c : Int) < 97 ∨ (¬ (c : Int) < 97 ∧ (122 : Int) < (c : Int)) := by omega
      clear hZ hnl hre hd hcap hlet
      have H3 := Lib.hid e3
      clear e3
      rcases e1 with e1 | ⟨e1, e2⟩
      · have e3 : (c : Int) < 97 := by omega
        clear H3
        go_enter Try.func17, Try.ntmps17
        go_wp2
        go_ret
        rw [← H.out.1]
        exact HE.out
      · rcases H3.out with e3 | ⟨e3, e4⟩
        · clear H3
          go_enter Try.func17, Try.ntmps17
          go_wp2
          go_ret
          rw [← H.out.1]
          exact HE.out
        · clear H3
          go_enter Try.func17, Try.ntmps17
          go_wp2
          go_ret
          rw [← H.out.1]
          exact HE.out

set_option maxHeartbeats 2000000 in
theorem yank19_any (c : Nat) (k : Int) (a : Option Addr) (n cc : Nat) (g : G) (B r : Nat) (L : ML G) (w : World) (hx : El w B (k, a, n, cc) g) (hf : Rfg w B r L) (hok : Ok L) (hc : c < 256) (hs : tz g.2 ≤ 50000) (hB : B ≤ w.heap.size) : Calls Try.prog 15 #[.pointer (some ⟨r, 0, none⟩), .int .u8 (c : Int), .agg #[.int .i64 k, .slice a n cc]] w fun e w' => OpD w B r (yank L c g) e w' := by
  obtain ⟨w1, hw1⟩ : ∃ w1, w1 = w.alloc (.cells #[.int .i64 k, .slice a n cc] 33) := ⟨_, rfl⟩
  have hb1 : Below w.heap.size w w1 := by rw [hw1]; exact one_below _ _
  have hr1 : RegAt w1 w.heap.size (k, a, n, cc) := by rw [hw1]; exact RegAt.new w (k, a, n, cc)
  have hnr : ¬ RBlk w1 r w.heap.size := fun hk => by have := hf.rlt (hk.back (hb1.block r hf.lt)); omega
  have H := Lib.hid (And.intro hw1 (And.intro hb1 (And.intro hr1 (And.intro (hx.below hb1) (And.intro (hf.below hb1) (And.intro hok (And.intro hs (And.intro (Nat.le_trans hB hb1.size) (And.intro (Dfr.below hb1 hf.lt) (And.intro hnr (And.intro hB hf.lt)))))))))))
  clear hw1 hb1 hr1 hx hf hok hs hB hnr
  obtain ⟨Z, hZ⟩ : ∃ Z, Z = yank L c g := ⟨_, rfl⟩
  rw [← hZ]
  unfold yank at hZ
  by_cases h34 : reg c = 34
  · rw [if_pos h34] at hZ
    have hcs := reg_name.1 h34
    clear h34
    have e0 : ((c : Int) == 95) = false := by rw [beq_eq_false_iff_ne]; omega
    have HCS : Hid (((c : Int) == 0) = true ∨ (((c : Int) == 0) = false ∧ ((c : Int) == 34) = true)) := by
      rcases hcs with h | h
      · exact .inl (by rw [beq_iff_eq]; omega)
      · exact .inr ⟨by rw [beq_eq_false_iff_ne]; omega, by rw [beq_iff_eq]; omega⟩
    clear hcs
    rcases HCS.out with e1 | ⟨e1, e2⟩
    · clear HCS
      go_enter Try.func15, Try.ntmps15
      go_wp2_with fail
      rw [← H.out.1]
      have p0 := H.out.2.2.1.c0
      have p1 : w1.cell? ⟨w.heap.size, 1, none⟩ = some (.slice a n cc) := H.out.2.2.1.c1
      have hsz := size5_any a n cc g.2 w1 (H.out.2.2.2.1).2.1 (by have := H.out.2.2.2.2.2.2.1; omega)
      go_wp2_with fail
      refine hsz.mono ?_
      rintro e w' ⟨rfl, rfl⟩
      clear hsz
      obtain ⟨T, hT⟩ : ∃ T, T = tz g.2 := ⟨_, rfl⟩
      rw [← hT]
      by_cases hbig : tz g.2 ≤ 4096
      rotate_left
      · rw [if_neg hbig] at hZ
        have HE : Hid (OpD w B r Z (.returned (.int .i64 21)) w1) := by rw [hZ]; exact ⟨rfl, H.out.2.2.2.2.1, H.out.2.2.2.2.2.2.2.2.1⟩
        have e9 : (4096 : Int) < (T : Int) := by omega
        clear hZ hT hbig
        go_wp2
        go_ret
        exact HE.out
      rw [if_pos hbig] at hZ
      have e9 : ¬ (4096 : Int) < (T : Int) := by omega
      have HT := Lib.hid (show tz g.2 ≤ 4096 by omega)
      have HZ := Lib.hid hZ
      clear hZ hT hbig
      have hst := set19_any 48 k a n cc _ B r _ w1 (H.out.2.2.2.1) (H.out.2.2.2.2.1) (H.out.2.2.2.2.2.1) (Nat.le_trans H.out.2.2.2.2.2.2.2.2.2.2.1 (H.out.2.2.2.2.2.2.2.2.1).1.size)
      go_wp2_with fail
      refine hst.mono ?_
      rintro e w2 ⟨rfl, hfw2, hdw2⟩
      clear hst
      have hr2 := H.out.2.2.1.fr hdw2.1 H.out.2.2.2.2.2.2.2.2.2.1
      have p0 := hr2.c0
      have p1 : w2.cell? ⟨w.heap.size, 1, none⟩ = some (.slice a n cc) := hr2.c1
      have H2 := Lib.hid (And.intro hfw2 (And.intro (H.out.2.2.2.2.2.2.2.2.1.trans hdw2) (H.out.2.2.2.1.dfr hdw2 H.out.2.2.2.2.1)))
      clear hfw2 hdw2 hr2
      have hst := set19_any 34 k a n cc _ B r _ w2 (H2.out.2.2) (H2.out.1) (ok_ins H.out.2.2.2.2.2.1 (by unfold vn; omega) HT.out) (Nat.le_trans H.out.2.2.2.2.2.2.2.2.2.2.1 (H2.out.2.1).1.size)
      go_wp2_with fail
      refine hst.mono ?_
      rintro e w3 ⟨rfl, hfw3, hdw3⟩
      clear hst
      have HE : Hid (OpD w B r Z (.returned (.int .i64 0)) w3) := by rw [HZ.out]; exact ⟨rfl, by rw [ins_comm H.out.2.2.2.2.2.1.1 (by decide)] at hfw3; exact hfw3, H2.out.2.1.trans hdw3⟩
      clear hfw3 hdw3
      go_wp2
      go_ret
      exact HE.out
    · clear HCS
      go_enter Try.func15, Try.ntmps15
      go_wp2_with fail
      rw [← H.out.1]
      have p0 := H.out.2.2.1.c0
      have p1 : w1.cell? ⟨w.heap.size, 1, none⟩ = some (.slice a n cc) := H.out.2.2.1.c1
      have hsz := size5_any a n cc g.2 w1 (H.out.2.2.2.1).2.1 (by have := H.out.2.2.2.2.2.2.1; omega)
      go_wp2_with fail
      refine hsz.mono ?_
      rintro e w' ⟨rfl, rfl⟩
      clear hsz
      obtain ⟨T, hT⟩ : ∃ T, T = tz g.2 := ⟨_, rfl⟩
      rw [← hT]
      by_cases hbig : tz g.2 ≤ 4096
      rotate_left
      · rw [if_neg hbig] at hZ
        have HE : Hid (OpD w B r Z (.returned (.int .i64 21)) w1) := by rw [hZ]; exact ⟨rfl, H.out.2.2.2.2.1, H.out.2.2.2.2.2.2.2.2.1⟩
        have e9 : (4096 : Int) < (T : Int) := by omega
        clear hZ hT hbig
        go_wp2
        go_ret
        exact HE.out
      rw [if_pos hbig] at hZ
      have e9 : ¬ (4096 : Int) < (T : Int) := by omega
      have HT := Lib.hid (show tz g.2 ≤ 4096 by omega)
      have HZ := Lib.hid hZ
      clear hZ hT hbig
      have hst := set19_any 48 k a n cc _ B r _ w1 (H.out.2.2.2.1) (H.out.2.2.2.2.1) (H.out.2.2.2.2.2.1) (Nat.le_trans H.out.2.2.2.2.2.2.2.2.2.2.1 (H.out.2.2.2.2.2.2.2.2.1).1.size)
      go_wp2_with fail
      refine hst.mono ?_
      rintro e w2 ⟨rfl, hfw2, hdw2⟩
      clear hst
      have hr2 := H.out.2.2.1.fr hdw2.1 H.out.2.2.2.2.2.2.2.2.2.1
      have p0 := hr2.c0
      have p1 : w2.cell? ⟨w.heap.size, 1, none⟩ = some (.slice a n cc) := hr2.c1
      have H2 := Lib.hid (And.intro hfw2 (And.intro (H.out.2.2.2.2.2.2.2.2.1.trans hdw2) (H.out.2.2.2.1.dfr hdw2 H.out.2.2.2.2.1)))
      clear hfw2 hdw2 hr2
      have hst := set19_any 34 k a n cc _ B r _ w2 (H2.out.2.2) (H2.out.1) (ok_ins H.out.2.2.2.2.2.1 (by unfold vn; omega) HT.out) (Nat.le_trans H.out.2.2.2.2.2.2.2.2.2.2.1 (H2.out.2.1).1.size)
      go_wp2_with fail
      refine hst.mono ?_
      rintro e w3 ⟨rfl, hfw3, hdw3⟩
      clear hst
      have HE : Hid (OpD w B r Z (.returned (.int .i64 0)) w3) := by rw [HZ.out]; exact ⟨rfl, by rw [ins_comm H.out.2.2.2.2.2.1.1 (by decide)] at hfw3; exact hfw3, H2.out.2.1.trans hdw3⟩
      clear hfw3 hdw3
      go_wp2
      go_ret
      exact HE.out
  · rw [if_neg h34] at hZ
    have hc0 : ¬ c = 0 := fun e => h34 (reg_name.2 (.inl e))
    have hc34 : ¬ c = 34 := fun e => h34 (reg_name.2 (.inr e))
    have e1 : ((c : Int) == 0) = false := by rw [beq_eq_false_iff_ne]; omega
    have e2 : ((c : Int) == 34) = false := by rw [beq_eq_false_iff_ne]; omega
    clear hc0 hc34 h34
    by_cases h95 : c = 95
    · rw [if_pos h95] at hZ
      have HE : Hid (OpD w B r Z (.returned (.int .i64 0)) w1) := by rw [hZ]; exact ⟨rfl, H.out.2.2.2.2.1, H.out.2.2.2.2.2.2.2.2.1⟩
      have e0 : ((c : Int) == 95) = true := by rw [beq_iff_eq]; omega
      clear hZ h95
      go_enter Try.func15, Try.ntmps15
      go_wp2
      go_ret
      rw [← H.out.1]
      exact HE.out
    · rw [if_neg h95] at hZ
      have e0 : ((c : Int) == 95) = false := by rw [beq_eq_false_iff_ne]; omega
      clear h95
      have hput := put19_any c k a n cc g B r L w1 H.out.2.2.2.1 H.out.2.2.2.2.1 H.out.2.2.2.2.2.1 hc H.out.2.2.2.2.2.2.1 H.out.2.2.2.2.2.2.2.1
      have hokp := Rl.ok_put H.out.2.2.2.2.2.1 c g
      have hpe := @put_err L c g
      have hpo := @put_ok L c g
      obtain ⟨P, hP⟩ : ∃ P, P = put L c g := ⟨_, rfl⟩
      rw [← hP] at hput hokp hpe hpo hZ
      obtain ⟨E, PL⟩ := P
      simp only at hokp hpe hpo hZ
      have HO := Lib.hid (And.intro hokp (And.intro hpe hpo))
      clear hP hokp hpe hpo
      go_enter Try.func15, Try.ntmps15
      go_wp2_with fail
      rw [← H.out.1]
      have p0 := H.out.2.2.1.c0
      have p1 : w1.cell? ⟨w.heap.size, 1, none⟩ = some (.slice a n cc) := H.out.2.2.1.c1
      refine hput.mono ?_
      rintro e w2 ⟨rfl, hf2, hd2⟩
      have H2 := Lib.hid (And.intro hf2 hd2)
      simp only
      clear hput p0 p1 hf2 hd2
      by_cases hE : E = 0
      · subst hE
        rw [if_pos rfl] at hZ
        have hlk := (HO.out.2.2 rfl).2
        rw [hand_some hlk] at hZ
        have HZ := Lib.hid hZ
        have hg := get19_any c B r PL w2 H2.out.1 HO.out.1 hc
        rw [hlk] at hg
        simp only [Option.isSome_some] at hg
        clear hZ hlk
        go_wp2_with fail
        refine hg.mono ?_
        rintro e w3 ⟨⟨k', a', n', c'⟩, rfl, hel, hb3⟩
        simp only [rv, sv]
        clear hg
        go_upto_region 13 with fail
        obtain ⟨w4, hw4⟩ : ∃ w4, w4 = w3.alloc (.cells #[.int .i64 k', .slice a' n' c'] 33) := ⟨_, rfl⟩
        have hb4 : Below w3.heap.size w3 w4 := by rw [hw4]; exact one_below _ _
        have hr4 : RegAt w4 w3.heap.size (k', a', n', c') := by rw [hw4]; exact RegAt.new w3 (k', a', n', c')
        have H4 := Lib.hid (And.intro hw4 (And.intro (below_on hb3 hb4) (And.intro hr4 (show El w4 B (k', a', n', c') (pr L c g) from hel.below hb4))))
        rw [← hw4]
        clear hw4 hb4 hb3 hr4 hel
        have q0 := H4.out.2.2.1.c0
        have q1 : w4.cell? ⟨w3.heap.size, 1, none⟩ = some (.slice a' n' c') := H4.out.2.2.1.c1
        have hd4 : Dfr r w w4 := H.out.2.2.2.2.2.2.2.2.1.trans (H2.out.2.trans (Dfr.below H4.out.2.1 H2.out.1.lt))
        have HD := Lib.hid hd4
        clear hd4
        have hst := set19_any 34 k' a' n' c' _ B r _ w4 (H4.out.2.2.2) (H2.out.1.below H4.out.2.1) (HO.out.1) (Nat.le_trans H.out.2.2.2.2.2.2.2.2.2.2.1 (HD.out).1.size)
        go_wp2_with fail
        refine hst.mono ?_
        rintro e w5 ⟨rfl, hfw5, hdw5⟩
        clear hst
        have HE : Hid (OpD w B r Z (.returned (.int .i64 0)) w5) := by rw [HZ.out]; exact ⟨rfl, hfw5, HD.out.trans hdw5⟩
        clear hfw5 hdw5
        go_wp2
        go_ret
        exact HE.out
      · rw [if_neg hE] at hZ
        have hPL := HO.out.2.1 hE
        subst hPL
        have e5 : (E == 0) = false := by rw [beq_eq_false_iff_ne]; exact hE
        have HE : Hid (OpD w B r Z (.returned (.int .i64 E)) w2) := by rw [hZ]; exact ⟨rfl, H2.out.1, H.out.2.2.2.2.2.2.2.2.1.trans H2.out.2⟩
        clear hZ hE
        go_wp2
        go_ret
        exact HE.out

set_option maxHeartbeats 2000000 in
theorem cut19_any (c : Nat) (k : Int) (a : Option Addr) (n cc : Nat) (g : G) (B r : Nat) (L : ML G) (w : World) (hx : El w B (k, a, n, cc) g) (hf : Rfg w B r L) (hok : Ok L) (hc : c < 256) (hs : tz g.2 ≤ 50000) (hB : B ≤ w.heap.size) : Calls Try.prog 19 #[.pointer (some ⟨r, 0, none⟩), .int .u8 (c : Int), .agg #[.int .i64 k, .slice a n cc]] w fun e w' => OpD w B r (cut L c g) e w' := by
  have hgn : g.2.length = n := hx.len
  have hkg : k = g.1 := hx.1
  obtain ⟨w1, hw1⟩ : ∃ w1, w1 = w.alloc (.cells #[.int .i64 k, .slice a n cc] 33) := ⟨_, rfl⟩
  have hb1 : Below w.heap.size w w1 := by rw [hw1]; exact one_below _ _
  have hr1 : RegAt w1 w.heap.size (k, a, n, cc) := by rw [hw1]; exact RegAt.new w (k, a, n, cc)
  have hnr : ¬ RBlk w1 r w.heap.size := fun hk => by have := hf.rlt (hk.back (hb1.block r hf.lt)); omega
  have H := Lib.hid (And.intro hw1 (And.intro hb1 (And.intro hr1 (And.intro (hx.below hb1) (And.intro (hf.below hb1) (And.intro hok (And.intro hs (And.intro (Nat.le_trans hB hb1.size) (And.intro (Dfr.below hb1 hf.lt) (And.intro hnr (And.intro hB hf.lt)))))))))))
  clear hw1 hb1 hr1 hx hf hok hs hB hnr
  obtain ⟨Z, hZ⟩ : ∃ Z, Z = cut L c g := ⟨_, rfl⟩
  rw [← hZ]
  unfold cut at hZ
  rw [hgn, ← hkg] at hZ
  clear hgn hkg
  by_cases h34 : reg c = 34
  rotate_left
  · rw [if_neg h34] at hZ
    have hc0 : ¬ c = 0 := fun e => h34 (reg_name.2 (.inl e))
    have hc34 : ¬ c = 34 := fun e => h34 (reg_name.2 (.inr e))
    have e1 : ((c : Int) == 0) = false := by rw [beq_eq_false_iff_ne]; omega
    have e2 : ((c : Int) == 34) = false := by rw [beq_eq_false_iff_ne]; omega
    have e3 : ((c : Int) != 0) = true := by rw [bne_iff_ne]; omega
    have e4 : ((c : Int) != 34) = true := by rw [bne_iff_ne]; omega
    have hy := yank19_any c k a n cc g B r L w1 H.out.2.2.2.1 H.out.2.2.2.2.1 H.out.2.2.2.2.2.1 hc H.out.2.2.2.2.2.2.1 H.out.2.2.2.2.2.2.2.1
    rw [← hZ] at hy
    clear hc0 hc34 h34 hZ
    go_enter Try.func19, Try.ntmps19
    go_wp2_with fail
    rw [← H.out.1]
    have p0 := H.out.2.2.1.c0
    have p1 : w1.cell? ⟨w.heap.size, 1, none⟩ = some (.slice a n cc) := H.out.2.2.1.c1
    refine hy.mono ?_
    rintro e w2 hop
    have HOP := Lib.hid (hop.from H.out.2.2.2.2.2.2.2.2.1)
    obtain ⟨rfl, _⟩ := hop
    clear hy
    go_wp2
    go_ret
    exact HOP.out
  rw [if_pos h34] at hZ
  have hcs := reg_name.1 h34
  clear h34
  have HCS : Hid (((c : Int) == 0) = true ∨ (((c : Int) == 0) = false ∧ ((c : Int) == 34) = true)) := by
    rcases hcs with h | h
    · exact .inl (by rw [beq_iff_eq]; omega)
    · exact .inr ⟨by rw [beq_eq_false_iff_ne]; omega, by rw [beq_iff_eq]; omega⟩
  rcases hcs with hcs | hcs
  · subst hcs
    clear HCS
    go_enter Try.func19, Try.ntmps19
    go_wp2_with fail
    rw [← H.out.1]
    have p0 := H.out.2.2.1.c0
    have p1 : w1.cell? ⟨w.heap.size, 1, none⟩ = some (.slice a n cc) := H.out.2.2.1.c1
    have hsz := size5_any a n cc g.2 w1 (H.out.2.2.2.1).2.1 (by have := H.out.2.2.2.2.2.2.1; omega)
    go_wp2_with fail
    refine hsz.mono ?_
    rintro e w' ⟨rfl, rfl⟩
    clear hsz
    obtain ⟨T, hT⟩ : ∃ T, T = tz g.2 := ⟨_, rfl⟩
    rw [← hT]
    by_cases hbig : tz g.2 ≤ 4096
    rotate_left
    · rw [if_neg hbig] at hZ
      have HE : Hid (OpD w B r Z (.returned (.int .i64 21)) w1) := by rw [hZ]; exact ⟨rfl, H.out.2.2.2.2.1, H.out.2.2.2.2.2.2.2.2.1⟩
      have e9 : (4096 : Int) < (T : Int) := by omega
      clear hZ hT hbig
      go_wp2
      go_ret
      exact HE.out
    rw [if_pos hbig] at hZ
    have e9 : ¬ (4096 : Int) < (T : Int) := by omega
    have HT := Lib.hid (show tz g.2 ≤ 4096 by omega)
    clear hT hbig
    by_cases hsm : k ≠ 1 ∧ n ≤ 1
    · rw [if_pos hsm] at hZ
      have HZ := Lib.hid hZ
      have e1 : (k == 1) = false := by rw [beq_eq_false_iff_ne]; exact hsm.1
      have e2 : ¬ (1 : Int) < (n : Int) := by omega
      clear hZ hsm
      have hst := set19_any 45 k a n cc _ B r _ w1 (H.out.2.2.2.1) (H.out.2.2.2.2.1) (H.out.2.2.2.2.2.1) (Nat.le_trans H.out.2.2.2.2.2.2.2.2.2.2.1 (H.out.2.2.2.2.2.2.2.2.1).1.size)
      go_wp2_with fail
      refine hst.mono ?_
      rintro e w2 ⟨rfl, hfw2, hdw2⟩
      clear hst
      have hr2 := H.out.2.2.1.fr hdw2.1 H.out.2.2.2.2.2.2.2.2.2.1
      have p0 := hr2.c0
      have p1 : w2.cell? ⟨w.heap.size, 1, none⟩ = some (.slice a n cc) := hr2.c1
      have H2 := Lib.hid (And.intro hfw2 (And.intro (H.out.2.2.2.2.2.2.2.2.1.trans hdw2) (H.out.2.2.2.1.dfr hdw2 H.out.2.2.2.2.1)))
      clear hfw2 hdw2 hr2
      have hst := set19_any 34 k a n cc _ B r _ w2 (H2.out.2.2) (H2.out.1) (ok_ins H.out.2.2.2.2.2.1 (by unfold vn; omega) HT.out) (Nat.le_trans H.out.2.2.2.2.2.2.2.2.2.2.1 (H2.out.2.1).1.size)
      go_wp2_with fail
      refine hst.mono ?_
      rintro e w3 ⟨rfl, hfw3, hdw3⟩
      clear hst
      have HE : Hid (OpD w B r Z (.returned (.int .i64 0)) w3) := by rw [HZ.out]; exact ⟨rfl, by rw [ins_comm H.out.2.2.2.2.2.1.1 (by decide)] at hfw3; exact hfw3, H2.out.2.1.trans hdw3⟩
      clear hfw3 hdw3
      go_wp2
      go_ret
      exact HE.out
    · rw [if_neg hsm] at hZ
      have HZ := Lib.hid hZ
      have H1 := Lib.hid (show k = 1 ∨ (¬ k = 1 ∧ ¬ n ≤ 1) from by
        by_cases hk : k = 1
        · exact .inl hk
        · exact .inr ⟨hk, fun h => hsm ⟨hk, h⟩⟩)
      clear hZ hsm
      rcases H1.out with hk1 | ⟨hk1, hn1⟩
      · subst hk1
        clear H1
        go_wp2
        go_loopw [7] (fun u wr => ∃ d j : Nat, d + j = 57 ∧ 49 ≤ d ∧ u = .int .u8 (d : Int) ∧ Hid (Rfg wr B r (dn L j) ∧ Dfr r w wr ∧ Dfr r w1 wr)) (fun u _ => (RowKit.intOf u).toNat)
        case atStart => exact ⟨57, 0, rfl, by omega, rfl, H.out.2.2.2.2.1, H.out.2.2.2.2.2.2.2.2.1, Dfr.below (Below.refl _ _) H.out.2.2.2.2.1.lt⟩
        case round =>
          obtain ⟨d, j, hdj, hd49, rfl, HR⟩ := hrel
          by_cases hd : 49 < d
          · have HN := Lib.hid (show dn L (j + 1) = hand (dn L j) (d - 1) d by show hand (dn L j) (56 - j) (57 - j) = _; rw [show 56 - j = d - 1 by omega, show 57 - j = d by omega])
            have hokj := ok_dn H.out.2.2.2.2.2.1 j (by omega)
            have hw : IntKind.u8.wrap ((d : Int) - 1) = ((d - 1 : Nat) : Int) := by rw [IntKind.wrap_u8]; omega
            have hrf : reg (d - 1) = d - 1 := by unfold reg; rw [if_neg (by omega), if_neg (by omega)]
            have hg := get19_any (d - 1) B r (dn L j) wr HR.out.1 hokj (by omega)
            rw [hrf] at hg
            obtain ⟨f, hf⟩ : ∃ f, f = d - 1 := ⟨_, rfl⟩
            rw [← hf] at hg hw HN
            have HFD := Lib.hid (And.intro hf (And.intro hdj hokj))
            have e6 : (49 : Int) < (d : Int) := by omega
            clear hf hdj hd hd49 hrf hokj p0 p1
            cases hq : lk (dn L j) f with
            | none =>
              have HN2 := Lib.hid (HN.out.trans (hand_none hq))
              rw [hq] at hg
              simp only [Option.isSome_none] at hg
              clear hq HN
              go_wp2_with fail
              refine hg.mono ?_
              rintro e w3 ⟨⟨k', a', n', c'⟩, rfl, hel, hb3⟩
              simp only [rv, sv]
              have hb4 := below_on hb3 (one_below w3 (.cells #[.int .i64 k', .slice a' n' c'] 33))
              have HE : Hid (Rfg (w3.alloc (.cells #[.int .i64 k', .slice a' n' c'] 33)) B r (dn L (j + 1)) ∧ Dfr r w (w3.alloc (.cells #[.int .i64 k', .slice a' n' c'] 33)) ∧ Dfr r w1 (w3.alloc (.cells #[.int .i64 k', .slice a' n' c'] 33))) := by
                rw [HN2.out]
                exact ⟨HR.out.1.below hb4, HR.out.2.1.trans (Dfr.below hb4 HR.out.1.lt), HR.out.2.2.trans (Dfr.below hb4 HR.out.1.lt)⟩
              clear hg hel hb3 hb4
              go_wp2
              go_roundw
              case rel => exact ⟨f, j + 1, by have := HFD.out; omega, by have := HFD.out; omega, by go_num, HE⟩
              case measure => have := HFD.out; simp [RowKit.intOf]; omega
            | some h =>
              have HN2 := Lib.hid (HN.out.trans (hand_some hq))
              rw [hq] at hg
              simp only [Option.isSome_some] at hg
              clear hq HN
              go_wp2_with fail
              refine hg.mono ?_
              rintro e w3 ⟨⟨k', a', n', c'⟩, rfl, hel, hb3⟩
              simp only [rv, sv]
              clear hg
              go_upto_region 11 with fail
              obtain ⟨w4, hw4⟩ : ∃ w4, w4 = w3.alloc (.cells #[.int .i64 k', .slice a' n' c'] 33) := ⟨_, rfl⟩
              have hb4 : Below w3.heap.size w3 w4 := by rw [hw4]; exact one_below _ _
              have hr4 : RegAt w4 w3.heap.size (k', a', n', c') := by rw [hw4]; exact RegAt.new w3 (k', a', n', c')
              have H4 := Lib.hid (And.intro hw4 (And.intro (below_on hb3 hb4) (And.intro hr4 (show El w4 B (k', a', n', c') h from hel.below hb4))))
              rw [← hw4]
              clear hw4 hb4 hb3 hr4 hel
              have q0 := H4.out.2.2.1.c0
              have q1 : w4.cell? ⟨w3.heap.size, 1, none⟩ = some (.slice a' n' c') := H4.out.2.2.1.c1
              have hdb := Dfr.below (r := r) H4.out.2.1 HR.out.1.lt
              have HD := Lib.hid (And.intro (HR.out.2.1.trans hdb) (HR.out.2.2.trans hdb))
              clear hdb
              have hst := set19_any d k' a' n' c' _ B r _ w4 (H4.out.2.2.2) (HR.out.1.below H4.out.2.1) (HFD.out.2.2) (Nat.le_trans H.out.2.2.2.2.2.2.2.2.2.2.1 (HD.out.1).1.size)
              go_wp2_with fail
              refine hst.mono ?_
              rintro e w5 ⟨rfl, hfw5, hdw5⟩
              clear hst
              have HE : Hid (Rfg w5 B r (dn L (j + 1)) ∧ Dfr r w w5 ∧ Dfr r w1 w5) := by rw [HN2.out]; exact ⟨hfw5, HD.out.1.trans hdw5, HD.out.2.trans hdw5⟩
              clear hfw5 hdw5
              go_wp2
              go_roundw
              case rel => exact ⟨f, j + 1, by have := HFD.out; omega, by have := HFD.out; omega, by go_num, HE⟩
              case measure => have := HFD.out; simp [RowKit.intOf]; omega
          · obtain rfl : d = 49 := by omega
            obtain rfl : j = 8 := by omega
            clear hdj hd49 hd
            have hr5 := H.out.2.2.1.fr HR.out.2.2.1 H.out.2.2.2.2.2.2.2.2.2.1
            have p0 := hr5.c0
            have p1 : wr.cell? ⟨w.heap.size, 1, none⟩ = some (.slice a n cc) := hr5.c1
            have HR5 := Lib.hid hr5
            have hel5 := H.out.2.2.2.1.dfr HR.out.2.2 H.out.2.2.2.2.1
            have hnr5 : ¬ RBlk wr r w.heap.size := fun hk => (HR.out.2.2.2 _ hk).elim H.out.2.2.2.2.2.2.2.2.2.1 (fun h => by have := H.out.2.2.1.lt; omega)
            have HEL := Lib.hid (And.intro hel5 hnr5)
            clear hr5 hel5 hnr5
            have hst := set19_any 49 1 a n cc _ B r _ wr (HEL.out.1) (HR.out.1) (ok_dn H.out.2.2.2.2.2.1 8 (by omega)) (Nat.le_trans H.out.2.2.2.2.2.2.2.2.2.2.1 (HR.out.2.1).1.size)
            go_wp2_with fail
            refine hst.mono ?_
            rintro e w6 ⟨rfl, hfw6, hdw6⟩
            clear hst
            have hr6 := HR5.out.fr hdw6.1 HEL.out.2
            have p0 := hr6.c0
            have p1 : w6.cell? ⟨w.heap.size, 1, none⟩ = some (.slice a n cc) := hr6.c1
            have H6 := Lib.hid (And.intro hfw6 (And.intro (HR.out.2.1.trans hdw6) (HEL.out.1.dfr hdw6 HR.out.1)))
            clear hfw6 hdw6 hr6
            have hst := set19_any 34 1 a n cc _ B r _ w6 (H6.out.2.2) (H6.out.1) (ok_ins (ok_dn H.out.2.2.2.2.2.1 8 (by omega)) (by unfold vn; omega) HT.out) (Nat.le_trans H.out.2.2.2.2.2.2.2.2.2.2.1 (H6.out.2.1).1.size)
            go_wp2_with fail
            refine hst.mono ?_
            rintro e w7 ⟨rfl, hfw7, hdw7⟩
            clear hst
            have HE : Hid (OpD w B r Z (.returned (.int .i64 0)) w7) := by rw [HZ.out]; exact ⟨rfl, by rw [dn_ins H.out.2.2.2.2.2.1.1] at hfw7; exact hfw7, H6.out.2.1.trans hdw7⟩
            clear hfw7 hdw7
            go_wp2
            go_ret
            exact HE.out
      · have e1 : (k == 1) = false := by rw [beq_eq_false_iff_ne]; exact hk1
        have e2 : (1 : Int) < (n : Int) := by omega
        clear H1 hk1 hn1
        go_wp2
        go_loopw [7] (fun u wr => ∃ d j : Nat, d + j = 57 ∧ 49 ≤ d ∧ u = .int .u8 (d : Int) ∧ Hid (Rfg wr B r (dn L j) ∧ Dfr r w wr ∧ Dfr r w1 wr)) (fun u _ => (RowKit.intOf u).toNat)
        case atStart => exact ⟨57, 0, rfl, by omega, rfl, H.out.2.2.2.2.1, H.out.2.2.2.2.2.2.2.2.1, Dfr.below (Below.refl _ _) H.out.2.2.2.2.1.lt⟩
        case round =>
          obtain ⟨d, j, hdj, hd49, rfl, HR⟩ := hrel
          by_cases hd : 49 < d
          · have HN := Lib.hid (show dn L (j + 1) = hand (dn L j) (d - 1) d by show hand (dn L j) (56 - j) (57 - j) = _; rw [show 56 - j = d - 1 by omega, show 57 - j = d by omega])
            have hokj := ok_dn H.out.2.2.2.2.2.1 j (by omega)
            have hw : IntKind.u8.wrap ((d : Int) - 1) = ((d - 1 : Nat) : Int) := by rw [IntKind.wrap_u8]; omega
            have hrf : reg (d - 1) = d - 1 := by unfold reg; rw [if_neg (by omega), if_neg (by omega)]
            have hg := get19_any (d - 1) B r (dn L j) wr HR.out.1 hokj (by omega)
            rw [hrf] at hg
            obtain ⟨f, hf⟩ : ∃ f, f = d - 1 := ⟨_, rfl⟩
            rw [← hf] at hg hw HN
            have HFD := Lib.hid (And.intro hf (And.intro hdj hokj))
            have e6 : (49 : Int) < (d : Int) := by omega
            clear hf hdj hd hd49 hrf hokj p0 p1
            cases hq : lk (dn L j) f with
            | none =>
              have HN2 := Lib.hid (HN.out.trans (hand_none hq))
              rw [hq] at hg
              simp only [Option.isSome_none] at hg
              clear hq HN
              go_wp2_with fail
              refine hg.mono ?_
              rintro e w3 ⟨⟨k', a', n', c'⟩, rfl, hel, hb3⟩
              simp only [rv, sv]
              have hb4 := below_on hb3 (one_below w3 (.cells #[.int .i64 k', .slice a' n' c'] 33))
              have HE : Hid (Rfg (w3.alloc (.cells #[.int .i64 k', .slice a' n' c'] 33)) B r (dn L (j + 1)) ∧ Dfr r w (w3.alloc (.cells #[.int .i64 k', .slice a' n' c'] 33)) ∧ Dfr r w1 (w3.alloc (.cells #[.int .i64 k', .slice a' n' c'] 33))) := by
                rw [HN2.out]
                exact ⟨HR.out.1.below hb4, HR.out.2.1.trans (Dfr.below hb4 HR.out.1.lt), HR.out.2.2.trans (Dfr.below hb4 HR.out.1.lt)⟩
              clear hg hel hb3 hb4
              go_wp2
              go_roundw
              case rel => exact ⟨f, j + 1, by have := HFD.out; omega, by have := HFD.out; omega, by go_num, HE⟩
              case measure => have := HFD.out; simp [RowKit.intOf]; omega
            | some h =>
              have HN2 := Lib.hid (HN.out.trans (hand_some hq))
              rw [hq] at hg
              simp only [Option.isSome_some] at hg
              clear hq HN
              go_wp2_with fail
              refine hg.mono ?_
              rintro e w3 ⟨⟨k', a', n', c'⟩, rfl, hel, hb3⟩
              simp only [rv, sv]
              clear hg
              go_upto_region 11 with fail
              obtain ⟨w4, hw4⟩ : ∃ w4, w4 = w3.alloc (.cells #[.int .i64 k', .slice a' n' c'] 33) := ⟨_, rfl⟩
              have hb4 : Below w3.heap.size w3 w4 := by rw [hw4]; exact one_below _ _
              have hr4 : RegAt w4 w3.heap.size (k', a', n', c') := by rw [hw4]; exact RegAt.new w3 (k', a', n', c')
              have H4 := Lib.hid (And.intro hw4 (And.intro (below_on hb3 hb4) (And.intro hr4 (show El w4 B (k', a', n', c') h from hel.below hb4))))
              rw [← hw4]
              clear hw4 hb4 hb3 hr4 hel
              have q0 := H4.out.2.2.1.c0
              have q1 : w4.cell? ⟨w3.heap.size, 1, none⟩ = some (.slice a' n' c') := H4.out.2.2.1.c1
              have hdb := Dfr.below (r := r) H4.out.2.1 HR.out.1.lt
              have HD := Lib.hid (And.intro (HR.out.2.1.trans hdb) (HR.out.2.2.trans hdb))
              clear hdb
              have hst := set19_any d k' a' n' c' _ B r _ w4 (H4.out.2.2.2) (HR.out.1.below H4.out.2.1) (HFD.out.2.2) (Nat.le_trans H.out.2.2.2.2.2.2.2.2.2.2.1 (HD.out.1).1.size)
              go_wp2_with fail
              refine hst.mono ?_
              rintro e w5 ⟨rfl, hfw5, hdw5⟩
              clear hst
              have HE : Hid (Rfg w5 B r (dn L (j + 1)) ∧ Dfr r w w5 ∧ Dfr r w1 w5) := by rw [HN2.out]; exact ⟨hfw5, HD.out.1.trans hdw5, HD.out.2.trans hdw5⟩
              clear hfw5 hdw5
              go_wp2
              go_roundw
              case rel => exact ⟨f, j + 1, by have := HFD.out; omega, by have := HFD.out; omega, by go_num, HE⟩
              case measure => have := HFD.out; simp [RowKit.intOf]; omega
          · obtain rfl : d = 49 := by omega
            obtain rfl : j = 8 := by omega
            clear hdj hd49 hd
            have hr5 := H.out.2.2.1.fr HR.out.2.2.1 H.out.2.2.2.2.2.2.2.2.2.1
            have p0 := hr5.c0
            have p1 : wr.cell? ⟨w.heap.size, 1, none⟩ = some (.slice a n cc) := hr5.c1
            have HR5 := Lib.hid hr5
            have hel5 := H.out.2.2.2.1.dfr HR.out.2.2 H.out.2.2.2.2.1
            have hnr5 : ¬ RBlk wr r w.heap.size := fun hk => (HR.out.2.2.2 _ hk).elim H.out.2.2.2.2.2.2.2.2.2.1 (fun h => by have := H.out.2.2.1.lt; omega)
            have HEL := Lib.hid (And.intro hel5 hnr5)
            clear hr5 hel5 hnr5
            have hst := set19_any 49 k a n cc _ B r _ wr (HEL.out.1) (HR.out.1) (ok_dn H.out.2.2.2.2.2.1 8 (by omega)) (Nat.le_trans H.out.2.2.2.2.2.2.2.2.2.2.1 (HR.out.2.1).1.size)
            go_wp2_with fail
            refine hst.mono ?_
            rintro e w6 ⟨rfl, hfw6, hdw6⟩
            clear hst
            have hr6 := HR5.out.fr hdw6.1 HEL.out.2
            have p0 := hr6.c0
            have p1 : w6.cell? ⟨w.heap.size, 1, none⟩ = some (.slice a n cc) := hr6.c1
            have H6 := Lib.hid (And.intro hfw6 (And.intro (HR.out.2.1.trans hdw6) (HEL.out.1.dfr hdw6 HR.out.1)))
            clear hfw6 hdw6 hr6
            have hst := set19_any 34 k a n cc _ B r _ w6 (H6.out.2.2) (H6.out.1) (ok_ins (ok_dn H.out.2.2.2.2.2.1 8 (by omega)) (by unfold vn; omega) HT.out) (Nat.le_trans H.out.2.2.2.2.2.2.2.2.2.2.1 (H6.out.2.1).1.size)
            go_wp2_with fail
            refine hst.mono ?_
            rintro e w7 ⟨rfl, hfw7, hdw7⟩
            clear hst
            have HE : Hid (OpD w B r Z (.returned (.int .i64 0)) w7) := by rw [HZ.out]; exact ⟨rfl, by rw [dn_ins H.out.2.2.2.2.2.1.1] at hfw7; exact hfw7, H6.out.2.1.trans hdw7⟩
            clear hfw7 hdw7
            go_wp2
            go_ret
            exact HE.out
  · subst hcs
    clear HCS
    go_enter Try.func19, Try.ntmps19
    go_wp2_with fail
    rw [← H.out.1]
    have p0 := H.out.2.2.1.c0
    have p1 : w1.cell? ⟨w.heap.size, 1, none⟩ = some (.slice a n cc) := H.out.2.2.1.c1
    have hsz := size5_any a n cc g.2 w1 (H.out.2.2.2.1).2.1 (by have := H.out.2.2.2.2.2.2.1; omega)
    go_wp2_with fail
    refine hsz.mono ?_
    rintro e w' ⟨rfl, rfl⟩
    clear hsz
    obtain ⟨T, hT⟩ : ∃ T, T = tz g.2 := ⟨_, rfl⟩
    rw [← hT]
    by_cases hbig : tz g.2 ≤ 4096
    rotate_left
    · rw [if_neg hbig] at hZ
      have HE : Hid (OpD w B r Z (.returned (.int .i64 21)) w1) := by rw [hZ]; exact ⟨rfl, H.out.2.2.2.2.1, H.out.2.2.2.2.2.2.2.2.1⟩
      have e9 : (4096 : Int) < (T : Int) := by omega
      clear hZ hT hbig
      go_wp2
      go_ret
      exact HE.out
    rw [if_pos hbig] at hZ
    have e9 : ¬ (4096 : Int) < (T : Int) := by omega
    have HT := Lib.hid (show tz g.2 ≤ 4096 by omega)
    clear hT hbig
    by_cases hsm : k ≠ 1 ∧ n ≤ 1
    · rw [if_pos hsm] at hZ
      have HZ := Lib.hid hZ
      have e1 : (k == 1) = false := by rw [beq_eq_false_iff_ne]; exact hsm.1
      have e2 : ¬ (1 : Int) < (n : Int) := by omega
      clear hZ hsm
      have hst := set19_any 45 k a n cc _ B r _ w1 (H.out.2.2.2.1) (H.out.2.2.2.2.1) (H.out.2.2.2.2.2.1) (Nat.le_trans H.out.2.2.2.2.2.2.2.2.2.2.1 (H.out.2.2.2.2.2.2.2.2.1).1.size)
      go_wp2_with fail
      refine hst.mono ?_
      rintro e w2 ⟨rfl, hfw2, hdw2⟩
      clear hst
      have hr2 := H.out.2.2.1.fr hdw2.1 H.out.2.2.2.2.2.2.2.2.2.1
      have p0 := hr2.c0
      have p1 : w2.cell? ⟨w.heap.size, 1, none⟩ = some (.slice a n cc) := hr2.c1
      have H2 := Lib.hid (And.intro hfw2 (And.intro (H.out.2.2.2.2.2.2.2.2.1.trans hdw2) (H.out.2.2.2.1.dfr hdw2 H.out.2.2.2.2.1)))
      clear hfw2 hdw2 hr2
      have hst := set19_any 34 k a n cc _ B r _ w2 (H2.out.2.2) (H2.out.1) (ok_ins H.out.2.2.2.2.2.1 (by unfold vn; omega) HT.out) (Nat.le_trans H.out.2.2.2.2.2.2.2.2.2.2.1 (H2.out.2.1).1.size)
      go_wp2_with fail
      refine hst.mono ?_
      rintro e w3 ⟨rfl, hfw3, hdw3⟩
      clear hst
      have HE : Hid (OpD w B r Z (.returned (.int .i64 0)) w3) := by rw [HZ.out]; exact ⟨rfl, by rw [ins_comm H.out.2.2.2.2.2.1.1 (by decide)] at hfw3; exact hfw3, H2.out.2.1.trans hdw3⟩
      clear hfw3 hdw3
      go_wp2
      go_ret
      exact HE.out
    · rw [if_neg hsm] at hZ
      have HZ := Lib.hid hZ
      have H1 := Lib.hid (show k = 1 ∨ (¬ k = 1 ∧ ¬ n ≤ 1) from by
        by_cases hk : k = 1
        · exact .inl hk
        · exact .inr ⟨hk, fun h => hsm ⟨hk, h⟩⟩)
      clear hZ hsm
      rcases H1.out with hk1 | ⟨hk1, hn1⟩
      · subst hk1
        clear H1
        go_wp2
        go_loopw [7] (fun u wr => ∃ d j : Nat, d + j = 57 ∧ 49 ≤ d ∧ u = .int .u8 (d : Int) ∧ Hid (Rfg wr B r (dn L j) ∧ Dfr r w wr ∧ Dfr r w1 wr)) (fun u _ => (RowKit.intOf u).toNat)
        case atStart => exact ⟨57, 0, rfl, by omega, rfl, H.out.2.2.2.2.1, H.out.2.2.2.2.2.2.2.2.1, Dfr.below (Below.refl _ _) H.out.2.2.2.2.1.lt⟩
        case round =>
          obtain ⟨d, j, hdj, hd49, rfl, HR⟩ := hrel
          by_cases hd : 49 < d
          · have HN := Lib.hid (show dn L (j + 1) = hand (dn L j) (d - 1) d by show hand (dn L j) (56 - j) (57 - j) = _; rw [show 56 - j = d - 1 by omega, show 57 - j = d by omega])
            have hokj := ok_dn H.out.2.2.2.2.2.1 j (by omega)
            have hw : IntKind.u8.wrap ((d : Int) - 1) = ((d - 1 : Nat) : Int) := by rw [IntKind.wrap_u8]; omega
            have hrf : reg (d - 1) = d - 1 := by unfold reg; rw [if_neg (by omega), if_neg (by omega)]
            have hg := get19_any (d - 1) B r (dn L j) wr HR.out.1 hokj (by omega)
            rw [hrf] at hg
            obtain ⟨f, hf⟩ : ∃ f, f = d - 1 := ⟨_, rfl⟩
            rw [← hf] at hg hw HN
            have HFD := Lib.hid (And.intro hf (And.intro hdj hokj))
            have e6 : (49 : Int) < (d : Int) := by omega
            clear hf hdj hd hd49 hrf hokj p0 p1
            cases hq : lk (dn L j) f with
            | none =>
              have HN2 := Lib.hid (HN.out.trans (hand_none hq))
              rw [hq] at hg
              simp only [Option.isSome_none] at hg
              clear hq HN
              go_wp2_with fail
              refine hg.mono ?_
              rintro e w3 ⟨⟨k', a', n', c'⟩, rfl, hel, hb3⟩
              simp only [rv, sv]
              have hb4 := below_on hb3 (one_below w3 (.cells #[.int .i64 k', .slice a' n' c'] 33))
              have HE : Hid (Rfg (w3.alloc (.cells #[.int .i64 k', .slice a' n' c'] 33)) B r (dn L (j + 1)) ∧ Dfr r w (w3.alloc (.cells #[.int .i64 k', .slice a' n' c'] 33)) ∧ Dfr r w1 (w3.alloc (.cells #[.int .i64 k', .slice a' n' c'] 33))) := by
                rw [HN2.out]
                exact ⟨HR.out.1.below hb4, HR.out.2.1.trans (Dfr.below hb4 HR.out.1.lt), HR.out.2.2.trans (Dfr.below hb4 HR.out.1.lt)⟩
              clear hg hel hb3 hb4
              go_wp2
              go_roundw
              case rel => exact ⟨f, j + 1, by have := HFD.out; omega, by have := HFD.out; omega, by go_num, HE⟩
              case measure => have := HFD.out; simp [RowKit.intOf]; omega
            | some h =>
              have HN2 := Lib.hid (HN.out.trans (hand_some hq))
              rw [hq] at hg
              simp only [Option.isSome_some] at hg
              clear hq HN
              go_wp2_with fail
              refine hg.mono ?_
              rintro e w3 ⟨⟨k', a', n', c'⟩, rfl, hel, hb3⟩
              simp only [rv, sv]
              clear hg
              go_upto_region 11 with fail
              obtain ⟨w4, hw4⟩ : ∃ w4, w4 = w3.alloc (.cells #[.int .i64 k', .slice a' n' c'] 33) := ⟨_, rfl⟩
              have hb4 : Below w3.heap.size w3 w4 := by rw [hw4]; exact one_below _ _
              have hr4 : RegAt w4 w3.heap.size (k', a', n', c') := by rw [hw4]; exact RegAt.new w3 (k', a', n', c')
              have H4 := Lib.hid (And.intro hw4 (And.intro (below_on hb3 hb4) (And.intro hr4 (show El w4 B (k', a', n', c') h from hel.below hb4))))
              rw [← hw4]
              clear hw4 hb4 hb3 hr4 hel
              have q0 := H4.out.2.2.1.c0
              have q1 : w4.cell? ⟨w3.heap.size, 1, none⟩ = some (.slice a' n' c') := H4.out.2.2.1.c1
              have hdb := Dfr.below (r := r) H4.out.2.1 HR.out.1.lt
              have HD := Lib.hid (And.intro (HR.out.2.1.trans hdb) (HR.out.2.2.trans hdb))
              clear hdb
              have hst := set19_any d k' a' n' c' _ B r _ w4 (H4.out.2.2.2) (HR.out.1.below H4.out.2.1) (HFD.out.2.2) (Nat.le_trans H.out.2.2.2.2.2.2.2.2.2.2.1 (HD.out.1).1.size)
              go_wp2_with fail
              refine hst.mono ?_
              rintro e w5 ⟨rfl, hfw5, hdw5⟩
              clear hst
              have HE : Hid (Rfg w5 B r (dn L (j + 1)) ∧ Dfr r w w5 ∧ Dfr r w1 w5) := by rw [HN2.out]; exact ⟨hfw5, HD.out.1.trans hdw5, HD.out.2.trans hdw5⟩
              clear hfw5 hdw5
              go_wp2
              go_roundw
              case rel => exact ⟨f, j + 1, by have := HFD.out; omega, by have := HFD.out; omega, by go_num, HE⟩
              case measure => have := HFD.out; simp [RowKit.intOf]; omega
          · obtain rfl : d = 49 := by omega
            obtain rfl : j = 8 := by omega
            clear hdj hd49 hd
            have hr5 := H.out.2.2.1.fr HR.out.2.2.1 H.out.2.2.2.2.2.2.2.2.2.1
            have p0 := hr5.c0
            have p1 : wr.cell? ⟨w.heap.size, 1, none⟩ = some (.slice a n cc) := hr5.c1
            have HR5 := Lib.hid hr5
            have hel5 := H.out.2.2.2.1.dfr HR.out.2.2 H.out.2.2.2.2.1
            have hnr5 : ¬ RBlk wr r w.heap.size := fun hk => (HR.out.2.2.2 _ hk).elim H.out.2.2.2.2.2.2.2.2.2.1 (fun h => by have := H.out.2.2.1.lt; omega)
            have HEL := Lib.hid (And.intro hel5 hnr5)
            clear hr5 hel5 hnr5
            have hst := set19_any 49 1 a n cc _ B r _ wr (HEL.out.1) (HR.out.1) (ok_dn H.out.2.2.2.2.2.1 8 (by omega)) (Nat.le_trans H.out.2.2.2.2.2.2.2.2.2.2.1 (HR.out.2.1).1.size)
            go_wp2_with fail
            refine hst.mono ?_
            rintro e w6 ⟨rfl, hfw6, hdw6⟩
            clear hst
            have hr6 := HR5.out.fr hdw6.1 HEL.out.2
            have p0 := hr6.c0
            have p1 : w6.cell? ⟨w.heap.size, 1, none⟩ = some (.slice a n cc) := hr6.c1
            have H6 := Lib.hid (And.intro hfw6 (And.intro (HR.out.2.1.trans hdw6) (HEL.out.1.dfr hdw6 HR.out.1)))
            clear hfw6 hdw6 hr6
            have hst := set19_any 34 1 a n cc _ B r _ w6 (H6.out.2.2) (H6.out.1) (ok_ins (ok_dn H.out.2.2.2.2.2.1 8 (by omega)) (by unfold vn; omega) HT.out) (Nat.le_trans H.out.2.2.2.2.2.2.2.2.2.2.1 (H6.out.2.1).1.size)
            go_wp2_with fail
            refine hst.mono ?_
            rintro e w7 ⟨rfl, hfw7, hdw7⟩
            clear hst
            have HE : Hid (OpD w B r Z (.returned (.int .i64 0)) w7) := by rw [HZ.out]; exact ⟨rfl, by rw [dn_ins H.out.2.2.2.2.2.1.1] at hfw7; exact hfw7, H6.out.2.1.trans hdw7⟩
            clear hfw7 hdw7
            go_wp2
            go_ret
            exact HE.out
      · have e1 : (k == 1) = false := by rw [beq_eq_false_iff_ne]; exact hk1
        have e2 : (1 : Int) < (n : Int) := by omega
        clear H1 hk1 hn1
        go_wp2
        go_loopw [7] (fun u wr => ∃ d j : Nat, d + j = 57 ∧ 49 ≤ d ∧ u = .int .u8 (d : Int) ∧ Hid (Rfg wr B r (dn L j) ∧ Dfr r w wr ∧ Dfr r w1 wr)) (fun u _ => (RowKit.intOf u).toNat)
        case atStart => exact ⟨57, 0, rfl, by omega, rfl, H.out.2.2.2.2.1, H.out.2.2.2.2.2.2.2.2.1, Dfr.below (Below.refl _ _) H.out.2.2.2.2.1.lt⟩
        case round =>
          obtain ⟨d, j, hdj, hd49, rfl, HR⟩ := hrel
          by_cases hd : 49 < d
          · have HN := Lib.hid (show dn L (j + 1) = hand (dn L j) (d - 1) d by show hand (dn L j) (56 - j) (57 - j) = _; rw [show 56 - j = d - 1 by omega, show 57 - j = d by omega])
            have hokj := ok_dn H.out.2.2.2.2.2.1 j (by omega)
            have hw : IntKind.u8.wrap ((d : Int) - 1) = ((d - 1 : Nat) : Int) := by rw [IntKind.wrap_u8]; omega
            have hrf : reg (d - 1) = d - 1 := by unfold reg; rw [if_neg (by omega), if_neg (by omega)]
            have hg := get19_any (d - 1) B r (dn L j) wr HR.out.1 hokj (by omega)
            rw [hrf] at hg
            obtain ⟨f, hf⟩ : ∃ f, f = d - 1 := ⟨_, rfl⟩
            rw [← hf] at hg hw HN
            have HFD := Lib.hid (And.intro hf (And.intro hdj hokj))
            have e6 : (49 : Int) < (d : Int) := by omega
            clear hf hdj hd hd49 hrf hokj p0 p1
            cases hq : lk (dn L j) f with
            | none =>
              have HN2 := Lib.hid (HN.out.trans (hand_none hq))
              rw [hq] at hg
              simp only [Option.isSome_none] at hg
              clear hq HN
              go_wp2_with fail
              refine hg.mono ?_
              rintro e w3 ⟨⟨k', a', n', c'⟩, rfl, hel, hb3⟩
              simp only [rv, sv]
              have hb4 := below_on hb3 (one_below w3 (.cells #[.int .i64 k', .slice a' n' c'] 33))
              have HE : Hid (Rfg (w3.alloc (.cells #[.int .i64 k', .slice a' n' c'] 33)) B r (dn L (j + 1)) ∧ Dfr r w (w3.alloc (.cells #[.int .i64 k', .slice a' n' c'] 33)) ∧ Dfr r w1 (w3.alloc (.cells #[.int .i64 k', .slice a' n' c'] 33))) := by
                rw [HN2.out]
                exact ⟨HR.out.1.below hb4, HR.out.2.1.trans (Dfr.below hb4 HR.out.1.lt), HR.out.2.2.trans (Dfr.below hb4 HR.out.1.lt)⟩
              clear hg hel hb3 hb4
              go_wp2
              go_roundw
              case rel => exact ⟨f, j + 1, by have := HFD.out; omega, by have := HFD.out; omega, by go_num, HE⟩
              case measure => have := HFD.out; simp [RowKit.intOf]; omega
            | some h =>
              have HN2 := Lib.hid (HN.out.trans (hand_some hq))
              rw [hq] at hg
              simp only [Option.isSome_some] at hg
              clear hq HN
              go_wp2_with fail
              refine hg.mono ?_
              rintro e w3 ⟨⟨k', a', n', c'⟩, rfl, hel, hb3⟩
              simp only [rv, sv]
              clear hg
              go_upto_region 11 with fail
              obtain ⟨w4, hw4⟩ : ∃ w4, w4 = w3.alloc (.cells #[.int .i64 k', .slice a' n' c'] 33) := ⟨_, rfl⟩
              have hb4 : Below w3.heap.size w3 w4 := by rw [hw4]; exact one_below _ _
              have hr4 : RegAt w4 w3.heap.size (k', a', n', c') := by rw [hw4]; exact RegAt.new w3 (k', a', n', c')
              have H4 := Lib.hid (And.intro hw4 (And.intro (below_on hb3 hb4) (And.intro hr4 (show El w4 B (k', a', n', c') h from hel.below hb4))))
              rw [← hw4]
              clear hw4 hb4 hb3 hr4 hel
              have q0 := H4.out.2.2.1.c0
              have q1 : w4.cell? ⟨w3.heap.size, 1, none⟩ = some (.slice a' n' c') := H4.out.2.2.1.c1
              have hdb := Dfr.below (r := r) H4.out.2.1 HR.out.1.lt
              have HD := Lib.hid (And.intro (HR.out.2.1.trans hdb) (HR.out.2.2.trans hdb))
              clear hdb
              have hst := set19_any d k' a' n' c' _ B r _ w4 (H4.out.2.2.2) (HR.out.1.below H4.out.2.1) (HFD.out.2.2) (Nat.le_trans H.out.2.2.2.2.2.2.2.2.2.2.1 (HD.out.1).1.size)
              go_wp2_with fail
              refine hst.mono ?_
              rintro e w5 ⟨rfl, hfw5, hdw5⟩
              clear hst
              have HE : Hid (Rfg w5 B r (dn L (j + 1)) ∧ Dfr r w w5 ∧ Dfr r w1 w5) := by rw [HN2.out]; exact ⟨hfw5, HD.out.1.trans hdw5, HD.out.2.trans hdw5⟩
              clear hfw5 hdw5
              go_wp2
              go_roundw
              case rel => exact ⟨f, j + 1, by have := HFD.out; omega, by have := HFD.out; omega, by go_num, HE⟩
              case measure => have := HFD.out; simp [RowKit.intOf]; omega
          · obtain rfl : d = 49 := by omega
            obtain rfl : j = 8 := by omega
            clear hdj hd49 hd
            have hr5 := H.out.2.2.1.fr HR.out.2.2.1 H.out.2.2.2.2.2.2.2.2.2.1
            have p0 := hr5.c0
            have p1 : wr.cell? ⟨w.heap.size, 1, none⟩ = some (.slice a n cc) := hr5.c1
            have HR5 := Lib.hid hr5
            have hel5 := H.out.2.2.2.1.dfr HR.out.2.2 H.out.2.2.2.2.1
            have hnr5 : ¬ RBlk wr r w.heap.size := fun hk => (HR.out.2.2.2 _ hk).elim H.out.2.2.2.2.2.2.2.2.2.1 (fun h => by have := H.out.2.2.1.lt; omega)
            have HEL := Lib.hid (And.intro hel5 hnr5)
            clear hr5 hel5 hnr5
            have hst := set19_any 49 k a n cc _ B r _ wr (HEL.out.1) (HR.out.1) (ok_dn H.out.2.2.2.2.2.1 8 (by omega)) (Nat.le_trans H.out.2.2.2.2.2.2.2.2.2.2.1 (HR.out.2.1).1.size)
            go_wp2_with fail
            refine hst.mono ?_
            rintro e w6 ⟨rfl, hfw6, hdw6⟩
            clear hst
            have hr6 := HR5.out.fr hdw6.1 HEL.out.2
            have p0 := hr6.c0
            have p1 : w6.cell? ⟨w.heap.size, 1, none⟩ = some (.slice a n cc) := hr6.c1
            have H6 := Lib.hid (And.intro hfw6 (And.intro (HR.out.2.1.trans hdw6) (HEL.out.1.dfr hdw6 HR.out.1)))
            clear hfw6 hdw6 hr6
            have hst := set19_any 34 k a n cc _ B r _ w6 (H6.out.2.2) (H6.out.1) (ok_ins (ok_dn H.out.2.2.2.2.2.1 8 (by omega)) (by unfold vn; omega) HT.out) (Nat.le_trans H.out.2.2.2.2.2.2.2.2.2.2.1 (H6.out.2.1).1.size)
            go_wp2_with fail
            refine hst.mono ?_
            rintro e w7 ⟨rfl, hfw7, hdw7⟩
            clear hst
            have HE : Hid (OpD w B r Z (.returned (.int .i64 0)) w7) := by rw [HZ.out]; exact ⟨rfl, by rw [dn_ins H.out.2.2.2.2.2.1.1] at hfw7; exact hfw7, H6.out.2.1.trans hdw7⟩
            clear hfw7 hdw7
            go_wp2
            go_ret
            exact HE.out
end Go.Proofs.Ytgfajagajiofnaa.Rg
