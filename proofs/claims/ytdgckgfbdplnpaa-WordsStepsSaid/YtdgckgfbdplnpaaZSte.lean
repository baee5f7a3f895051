/-
  The law WordsSteps, walked.
-/
import Derived.Test.YtdgckgfbdplnpaaZk
set_option linter.unusedVariables false
set_option linter.unusedSimpArgs false
set_option maxRecDepth 100000
namespace Go.Proofs.Ytdgckgfbdplnpaa.ZSte
open Go Go.RowKit Go.Proofs.Ytdgckgfbdplnpaa.Vk Go.Proofs.Ytdgckgfbdplnpaa.Str Go.Proofs.Ytdgckgfbdplnpaa.Ln Go.Proofs.Ytdgckgfbdplnpaa.Cl Go.Proofs.Ytdgckgfbdplnpaa.Mv Go.Proofs.Ytdgckgfbdplnpaa.Wd
attribute [local go_sem] Oper.semAt_some
set_option maxHeartbeats 4000000

/-- Where a walk by single steps stands behind i of them. -/
def Stp (F : P2 → List P2) (p : P2) (i : Nat) (q : P2) (x : Bool) : Prop :=
  (x = true ∧ (i = 0 ∧ q = p ∨ ∃ pre rest, F p = pre ++ q :: rest ∧ pre.length + 1 = i)) ∨ (x = false ∧ (F p).length < i ∧ q = (0, 0))
theorem Stp.zero (F : P2 → List P2) (p : P2) : Stp F p 0 p true := .inl ⟨rfl, .inl ⟨rfl, rfl⟩⟩
theorem Stp.step {F : P2 → List P2} {p q : P2} {i : Nat} (hF : ∀ pre rest x, F p = pre ++ x :: rest → F x = rest) (h : Stp F p i q true) {t : P2 × Bool} (ht : t = nthV (F q) 1) : Stp F p (i + 1) t.1 t.2 := by
  rcases h with ⟨_, h⟩ | ⟨h, _⟩
  · rcases h with ⟨rfl, rfl⟩ | ⟨pre, rest, h1, h2⟩
    · cases hq : F q with
      | nil => rw [hq] at ht; subst ht; exact .inr ⟨rfl, by rw [hq]; simp, rfl⟩
      | cons a r => rw [hq] at ht; subst ht; exact .inl ⟨rfl, .inr ⟨[], r, by rw [hq]; rfl, rfl⟩⟩
    · rw [hF _ _ _ h1] at ht
      cases rest with
      | nil => subst ht; exact .inr ⟨rfl, by rw [h1]; simp; omega, rfl⟩
      | cons a r => subst ht; exact .inl ⟨rfl, .inr ⟨pre ++ [q], r, by rw [h1]; simp [nthV], by simp; omega⟩⟩
  · cases h
theorem Stp.stay {F : P2 → List P2} {p q : P2} {i : Nat} (h : Stp F p i q false) : Stp F p (i + 1) q false := by
  rcases h with ⟨h, _⟩ | ⟨_, h, h2⟩
  · cases h
  · exact .inr ⟨rfl, by omega, h2⟩
theorem Stp.fin {F : P2 → List P2} {p q : P2} {i : Nat} {x : Bool} (h : Stp F p i q x) (hi : 1 ≤ i) : nthV (F p) i = (q, x) := by
  rcases h with ⟨rfl, h⟩ | ⟨rfl, h, rfl⟩
  · rcases h with ⟨rfl, _⟩ | ⟨pre, rest, h1, h2⟩
    · omega
    · exact nthV_eq h1 h2
  · exact nthV_no h
theorem Stp.plc {F : P2 → List P2} {p q : P2} {i : Nat} {ls : List ByteArray} (h : Stp F p i q true) (hp : Plc ls (p.1 : Int) (p.2 : Int)) (hF : ∀ x ∈ F p, x.1 < ls.length ∧ x.2 ≤ (lineAt ls x.1).size) : Plc ls (q.1 : Int) (q.2 : Int) := by
  rcases h with ⟨_, h⟩ | ⟨h, _⟩
  · rcases h with ⟨_, rfl⟩ | ⟨pre, rest, h1, _⟩
    · exact hp
    · obtain ⟨a, b⟩ := hF q (by rw [h1]; simp)
      exact (plc_nat a).2 b
  · cases h
theorem nthV_zero {l : List P2} {k : Nat} (h : (nthV l k).2 = false) : (nthV l k).1 = (0, 0) := by
  unfold nthV at *
  split
  · rfl
  · rename_i hh; rw [if_neg hh] at h; cases h
theorem mvd_form (t : P2 × Bool) (way : Int) (h : t.2 = false → t.1 = (0, 0)) : ∃ wy wt : Int, mvd t way = ⟨t.1.1, t.1.2, wy, false, wt, t.2⟩ := by
  obtain ⟨⟨a, b⟩, o⟩ := t
  cases o
  · have := h rfl
    injection this with h1 h2
    subst h1 h2
    exact ⟨0, 0, rfl⟩
  · exact ⟨way, -1, rfl⟩
theorem mem_sts {big : Bool} {ls : List ByteArray} {x : P2} (h : x ∈ sts big ls) : x.1 < ls.length ∧ x.2 ≤ (lineAt ls x.1).size := by
  obtain ⟨h1, h2⟩ := mks_mem h
  exact ⟨h1, by rcases h2 with ⟨h2, _⟩ | ⟨_, h2, h3⟩ <;> omega⟩
theorem mem_eds {big : Bool} {ls : List ByteArray} {x : P2} (h : x ∈ eds big ls) : x.1 < ls.length ∧ x.2 ≤ (lineAt ls x.1).size := by
  obtain ⟨h1, h2⟩ := mks_mem h
  exact ⟨h1, by rcases h2 with ⟨h2, _⟩ | ⟨_, h2, h3⟩ <;> omega⟩
abbrev FN (big : Bool) (ls : List ByteArray) (p : P2) : List P2 := aft (sts big ls) p
abbrev FB (big : Bool) (ls : List ByteArray) (p : P2) : List P2 := (bef (sts big ls) p).reverse
abbrev FT (big : Bool) (ls : List ByteArray) (p : P2) : List P2 := aft (eds big ls) p
theorem next_form {big : Bool} {ls : List ByteArray} {q : P2} {k : Nat} (hk : 1 ≤ k) (hP : Plc ls (q.1 : Int) (q.2 : Int)) {t : P2 × Bool} (ht : t = nthV (FN big ls q) k) : ∃ wy wt : Int, nextR ls q.1 q.2 k big false = ⟨t.1.1, t.1.2, wy, false, wt, t.2⟩ := by
  have e : nextR ls q.1 q.2 k big false = mvd t 0 := (ifm_yes hP hk).trans (by rw [ht]; simp)
  rw [e]; exact mvd_form t 0 (fun h => by rw [ht] at h ⊢; exact nthV_zero h)
theorem back_form {big : Bool} {ls : List ByteArray} {q : P2} {k : Nat} (hk : 1 ≤ k) (hP : Plc ls (q.1 : Int) (q.2 : Int)) {t : P2 × Bool} (ht : t = nthV (FB big ls q) k) : ∃ wy wt : Int, backR ls q.1 q.2 k big = ⟨t.1.1, t.1.2, wy, false, wt, t.2⟩ := by
  have e : backR ls q.1 q.2 k big = mvd t 0 := (ifm_yes hP hk).trans (by rw [ht])
  rw [e]; exact mvd_form t 0 (fun h => by rw [ht] at h ⊢; exact nthV_zero h)
theorem tail_form {big : Bool} {ls : List ByteArray} {q : P2} {k : Nat} (hk : 1 ≤ k) (hP : Plc ls (q.1 : Int) (q.2 : Int)) {t : P2 × Bool} (ht : t = nthV (FT big ls q) k) : ∃ wy wt : Int, tailR ls q.1 q.2 k big false = ⟨t.1.1, t.1.2, wy, false, wt, t.2⟩ := by
  have e : tailR ls q.1 q.2 k big false = mvd t 1 := (ifm_yes hP hk).trans (by rw [ht]; simp)
  rw [e]; exact mvd_form t 1 (fun h => by rw [ht] at h ⊢; exact nthV_zero h)

theorem walk (a : Option Addr) (n c' : Nat) (ls : List ByteArray) (x y q : Int) (big : Bool) (w : World) (h : Ss w a n c' ls) (hs : ∀ s ∈ ls, s.size ≤ 140737488355328) (hx : (Lit.int .u16 x).wf = true) (hy : (Lit.int .u16 y).wf = true) (hq0 : (Lit.int .u8 q).wf = true) :
    Calls Try.prog 5 #[.slice a n c', .int .u16 x, .int .u16 y, .int .u8 q, .bool big] w fun e w' => e = .returned (.bool true) ∧ Below w.heap.size w w' := by
  have hk := known_any w
  have x2 : 0 ≤ x ∧ x ≤ 65535 := by simpa [Lit.wf, IntKind.min, IntKind.max, IntKind.signed, IntKind.bits] using hx
  have y2 : 0 ≤ y ∧ y ≤ 65535 := by simpa [Lit.wf, IntKind.min, IntKind.max, IntKind.signed, IntKind.bits] using hy
  have q2 : 0 ≤ q ∧ q ≤ 255 := by simpa [Lit.wf, IntKind.min, IntKind.max, IntKind.signed, IntKind.bits] using hq0
  obtain ⟨J, hJ, hJ5⟩ : ∃ J : Nat, q % 6 = (J : Int) ∧ J < 6 := ⟨(q % 6).toNat, by omega, by omega⟩
  have hJt : q.tmod 6 = (J : Int) := by rw [Int.tmod_eq_emod_of_nonneg q2.1]; exact hJ
  obtain ⟨K, hK1, hK2⟩ : ∃ K, J + 1 ≤ K ∧ K ≤ J + 1 := ⟨J + 1, by omega, by omega⟩
  have hwJ : IntKind.i64.wrap (J : Int) = (J : Int) := wrap_id (by omega) (by omega)
  have hwK : IntKind.i64.wrap ((J : Int) + 1) = (K : Int) := by rw [wrap_id (by omega) (by omega)]; omega
  have hmx : Try.prog.follows .mixedOrders = true := by kernel_rfl
  go_enter Try.func5, Try.ntmps5
  go_wp2_with fail
  refine hk.mono ?_
  rintro e w1 ⟨rfl, hb1⟩
  have htx := text_any a n c' ls w1 (SrcV.below h hb1) hs
  have HS1 := Lib.hid (SrcV.below h hb1)
  have HB1 := Lib.hid hb1
  clear hk hb1 h
  go_wp2_with fail
  refine htx.mono ?_
  rintro e w' ⟨qq, rfl, rfl, hq⟩
  clear htx
  cases qq
  · clear hq
    go_wp2
    go_ret
    exact ⟨rfl, HB1.out⟩
  obtain ⟨hn0, hn40, hz, _⟩ := hq rfl
  clear hq
  have hse := seat_any a n c' ls x y w1 HS1.out hn0 hs x2 y2
  go_wp2_with fail
  refine hse.mono ?_
  rintro e w2 ⟨⟨i, m, rfl, hi, hm⟩, hb2⟩
  have D := Lib.hid hb2
  clear hse hb2
  go_upto_region 6 with fail
  obtain ⟨x2, hx2⟩ : ∃ x2, x2 = w2.alloc (.cells #[.int .i64 (i : Int), .int .i64 (m : Int)] 35) := ⟨_, rfl⟩
  have hA : Below w2.heap.size w2 x2 := by rw [hx2]; exact (Below.refl _ w2).alloc (Nat.le_refl _) _
  have hV := PosAt.new w2 (i : Int) (m : Int)
  rw [← hx2] at hV ⊢
  have gg_D := D.out.size
  have D := Lib.hid (below_on D.out hA)
  obtain ⟨b_P, hbf⟩ : ∃ b, b = w2.heap.size := ⟨_, rfl⟩
  rw [← hbf] at hV ⊢
  have g_P_D := Lib.hid (show w1.heap.size ≤ b_P by rw [hbf]; exact gg_D)
  clear gg_D
  have P := Lib.hid hV
  clear hV hA hx2 hbf
  have c_P := P.out
  have P0 := c_P.c0
  have P1 := c_P.c1
  clear c_P
  have hlen := Ss.length HS1.out
  have hP : Plc ls (i : Int) (m : Int) := (plc_nat (by omega)).2 hm
  have HPL := Lib.hid hP
  go_upto_region 7 with fail
  clear hJ hJt hwJ hwK hP
  have DX := D
  have PX := P
  clear P0 P1
  go_cut [13, 14, 15] from 40 to 42 (fun s13 s14 s15 wx => ∃ bq br bs : Nat, s13 = .pointer (some ⟨bq, 0, none⟩) ∧ s14 = .pointer (some ⟨br, 0, none⟩) ∧ s15 = .pointer (some ⟨bs, 0, none⟩) ∧
    Hid (bq ≠ br ∧ bq ≠ bs ∧ br ≠ bs ∧ x2.heap.size ≤ bq ∧ x2.heap.size ≤ br ∧ x2.heap.size ≤ bs ∧ PosAt wx bq i m ∧ PosAt wx br i m ∧ PosAt wx bs i m ∧ Below x2.heap.size x2 wx))
  case first =>
    refine wp_region_held_drew (S := fun w' => w'.cell? ⟨b_P, 0, none⟩ = some (.int .i64 i) ∧ w'.cell? ⟨b_P, 1, none⟩ = some (.int .i64 m)) hmx ⟨P.out.c0, P.out.c1⟩ (fun hS0 => ?_)
    obtain ⟨xd, hxd⟩ : ∃ xd, xd = x2.drew := ⟨_, rfl⟩
    have hbd : Below x2.heap.size x2 xd := by rw [hxd]; exact (Below.refl _ _).drew
    rw [← hxd] at hS0 ⊢
    clear hxd
    refine wpAnyH_take (i := 0) (v := .agg #[.int .i64 i, .int .i64 m]) rfl (by kernel_rfl) (by kernel_rfl) (by kernel_rfl) (fun _ _ _ h => h) (Or.inl ⟨by rfl, fun w' hw => by obtain ⟨s0, s1⟩ := hw; go_simp⟩) hS0 ?_
    try simp only [Act.put]
    refine wpAnyH_take (i := 1) (v := .agg #[.int .i64 i, .int .i64 m]) rfl (by kernel_rfl) (by kernel_rfl) (by kernel_rfl) (fun _ _ _ h => h) (Or.inl ⟨by rfl, fun w' hw => by obtain ⟨s0, s1⟩ := hw; go_simp⟩) hS0 ?_
    try simp only [Act.put]
    refine wpAnyH_take (i := 2) (v := .agg #[.int .i64 i, .int .i64 m]) rfl (by kernel_rfl) (by kernel_rfl) (by kernel_rfl) (fun _ _ _ h => h) (Or.inl ⟨by rfl, fun w' hw => by obtain ⟨s0, s1⟩ := hw; go_simp⟩) hS0 ?_
    try simp only [Act.put]
    refine wpAnyH_ready (rs := [3, 4, 5]) (by kernel_rfl) (by simp) ?_
    refine AllReadyH.cons rfl (fun K hK => ?k03) (AllReadyH.cons rfl (fun K hK => ?k04) (AllReadyH.cons rfl (fun K hK => ?k05) AllReadyH.nil))
    case k03 =>
      go_simp
      refine hK.out _ _ ⟨cell_one hS0.1 _, cell_one hS0.2 _⟩ (fun hS0 => ?_)
      clear hK K
      try simp only [Act.put]
      obtain ⟨A0, hA0⟩ : ∃ A, A = xd.alloc (.cells #[.int .i64 0, .int .i64 0] 35) := ⟨_, rfl⟩
      obtain ⟨g3, hg3⟩ : ∃ g, g = xd.heap.size := ⟨_, rfl⟩
      have n3 : PosAt A0 g3 0 0 := by rw [hA0, hg3]; exact PosAt.new _ 0 0
      have bl0 : Below xd.heap.size xd A0 := by rw [hA0]; exact (Below.refl _ _).alloc (Nat.le_refl _) _
      have hz0 : g3 < A0.heap.size := by rw [hA0, hg3]; simp
      have hx3 : x2.heap.size ≤ g3 := by rw [hg3]; exact hbd.size
      have hzx0 : x2.heap.size ≤ A0.heap.size := by omega
      rw [← hA0] at hS0 ⊢
      rw [← hg3]
      have HG3 := Lib.hid (show g3 < A0.heap.size from hz0)
      clear hA0 hg3
      have E0 : Below x2.heap.size x2 A0 := hbd.trans (bl0.mono hbd.size)
      refine wpAnyH_ready (rs := [4, 5]) (by kernel_rfl) (by simp) ?_
      refine AllReadyH.cons rfl (fun K hK => ?k14) (AllReadyH.cons rfl (fun K hK => ?k15) AllReadyH.nil)
      case k14 =>
        go_simp
        refine hK.out _ _ ⟨cell_one hS0.1 _, cell_one hS0.2 _⟩ (fun hS0 => ?_)
        clear hK K
        try simp only [Act.put]
        obtain ⟨A1, hA1⟩ : ∃ A, A = A0.alloc (.cells #[.int .i64 0, .int .i64 0] 35) := ⟨_, rfl⟩
        obtain ⟨g4, hg4⟩ : ∃ g, g = A0.heap.size := ⟨_, rfl⟩
        have n4 : PosAt A1 g4 0 0 := by rw [hA1, hg4]; exact PosAt.new _ 0 0
        have bl1 : Below A0.heap.size A0 A1 := by rw [hA1]; exact (Below.refl _ _).alloc (Nat.le_refl _) _
        have hz1 : g4 < A1.heap.size := by rw [hA1, hg4]; simp
        have hx4 : x2.heap.size ≤ g4 := by rw [hg4]; exact hzx0
        have hzx1 : x2.heap.size ≤ A1.heap.size := by omega
        rw [← hA1] at hS0 ⊢
        rw [← hg4]
        have n3 := n3.below bl1 n3.lt
        have ne34 : g3 ≠ g4 := by have := hz0; have := HG3.out; omega
        have HG3 := Lib.hid (show g3 < A1.heap.size by have := HG3.out; omega)
        have HG4 := Lib.hid (show g4 < A1.heap.size from hz1)
        clear hA1 hg4
        have E1 := E0.trans (bl1.mono hzx0)
        refine wpAnyH_ready (rs := [5]) (by kernel_rfl) (by simp) ?_
        refine AllReadyH.cons rfl (fun K hK => ?k25) AllReadyH.nil
        case k25 =>
          go_simp
          refine hK.out _ _ ⟨cell_one hS0.1 _, cell_one hS0.2 _⟩ (fun hS0 => ?_)
          clear hK K
          try simp only [Act.put]
          obtain ⟨A2, hA2⟩ : ∃ A, A = A1.alloc (.cells #[.int .i64 0, .int .i64 0] 35) := ⟨_, rfl⟩
          obtain ⟨g5, hg5⟩ : ∃ g, g = A1.heap.size := ⟨_, rfl⟩
          have n5 : PosAt A2 g5 0 0 := by rw [hA2, hg5]; exact PosAt.new _ 0 0
          have bl2 : Below A1.heap.size A1 A2 := by rw [hA2]; exact (Below.refl _ _).alloc (Nat.le_refl _) _
          have hz2 : g5 < A2.heap.size := by rw [hA2, hg5]; simp
          have hx5 : x2.heap.size ≤ g5 := by rw [hg5]; exact hzx1
          have hzx2 : x2.heap.size ≤ A2.heap.size := by omega
          rw [← hA2] at hS0 ⊢
          rw [← hg5]
          have n3 := n3.below bl2 n3.lt
          have ne35 : g3 ≠ g5 := by have := hz1; have := HG3.out; omega
          have HG3 := Lib.hid (show g3 < A2.heap.size by have := HG3.out; omega)
          have n4 := n4.below bl2 n4.lt
          have ne45 : g4 ≠ g5 := by have := hz1; have := HG4.out; omega
          have HG4 := Lib.hid (show g4 < A2.heap.size by have := HG4.out; omega)
          have HG5 := Lib.hid (show g5 < A2.heap.size from hz2)
          clear hA2 hg5
          have E2 := E1.trans (bl2.mono hzx1)
          refine wpAnyH_ready (rs := [6]) (by kernel_rfl) (by simp) ?_
          refine AllReadyH.cons rfl (fun K hK => ?_) AllReadyH.nil
          have c0 := n3.c0
          have c1 := n3.c1
          have cz := fun j => frozen_of_row _ g3 j _ _ n3
          go_simp
          obtain ⟨B6, hB6⟩ : ∃ B, B = ((A2.setCell ⟨g3, 0, none⟩ (.int .i64 i)).setCell ⟨g3, 1, none⟩ (.int .i64 m)) := ⟨_, rfl⟩
          rw [← hB6]
          have F6 : Below x2.heap.size x2 B6 := by rw [hB6]; exact (E2.setCell (p := ⟨g3, 0, none⟩) hx3 _).setCell (p := ⟨g3, 1, none⟩) hx3 _
          have n3 : PosAt B6 g3 i m := by rw [hB6]; exact So.set2 n3
          have n4 := (show PosAt B6 g4 _ _ by rw [hB6]; exact (So.set2_other (ne34.symm)).trans n4)
          have n5 := (show PosAt B6 g5 _ _ by rw [hB6]; exact (So.set2_other (ne35.symm)).trans n5)
          have hP6 := PX.out.below F6 PX.out.lt
          refine hK.out _ _ ⟨hP6.c0, hP6.c1⟩ (fun hS0 => ?_)
          clear hK K c0 c1 cz hB6 hP6
          try simp only [Act.put]
          refine wpAnyH_ready (rs := [7]) (by kernel_rfl) (by simp) ?_
          refine AllReadyH.cons rfl (fun K hK => ?_) AllReadyH.nil
          have c0 := n4.c0
          have c1 := n4.c1
          have cz := fun j => frozen_of_row _ g4 j _ _ n4
          go_simp
          obtain ⟨B7, hB7⟩ : ∃ B, B = ((B6.setCell ⟨g4, 0, none⟩ (.int .i64 i)).setCell ⟨g4, 1, none⟩ (.int .i64 m)) := ⟨_, rfl⟩
          rw [← hB7]
          have F7 : Below x2.heap.size x2 B7 := by rw [hB7]; exact (F6.setCell (p := ⟨g4, 0, none⟩) hx4 _).setCell (p := ⟨g4, 1, none⟩) hx4 _
          have n4 : PosAt B7 g4 i m := by rw [hB7]; exact So.set2 n4
          have n3 := (show PosAt B7 g3 _ _ by rw [hB7]; exact (So.set2_other (ne34)).trans n3)
          have n5 := (show PosAt B7 g5 _ _ by rw [hB7]; exact (So.set2_other (ne45.symm)).trans n5)
          have hP6 := PX.out.below F7 PX.out.lt
          refine hK.out _ _ ⟨hP6.c0, hP6.c1⟩ (fun hS0 => ?_)
          clear hK K c0 c1 cz hB7 hP6
          try simp only [Act.put]
          refine wpAnyH_ready (rs := [8]) (by kernel_rfl) (by simp) ?_
          refine AllReadyH.cons rfl (fun K hK => ?_) AllReadyH.nil
          have c0 := n5.c0
          have c1 := n5.c1
          have cz := fun j => frozen_of_row _ g5 j _ _ n5
          go_simp
          obtain ⟨B8, hB8⟩ : ∃ B, B = ((B7.setCell ⟨g5, 0, none⟩ (.int .i64 i)).setCell ⟨g5, 1, none⟩ (.int .i64 m)) := ⟨_, rfl⟩
          rw [← hB8]
          have F8 : Below x2.heap.size x2 B8 := by rw [hB8]; exact (F7.setCell (p := ⟨g5, 0, none⟩) hx5 _).setCell (p := ⟨g5, 1, none⟩) hx5 _
          have n5 : PosAt B8 g5 i m := by rw [hB8]; exact So.set2 n5
          have n3 := (show PosAt B8 g3 _ _ by rw [hB8]; exact (So.set2_other (ne35)).trans n3)
          have n4 := (show PosAt B8 g4 _ _ by rw [hB8]; exact (So.set2_other (ne45)).trans n4)
          have hP6 := PX.out.below F8 PX.out.lt
          refine hK.out _ _ ⟨hP6.c0, hP6.c1⟩ (fun hS0 => ?_)
          clear hK K c0 c1 cz hB8 hP6
          try simp only [Act.put]
          refine wpAnyH_done (by kernel_rfl) ?_ _
          go_wp2_with fail
          go_meet
          case rel => exact ⟨g3, g4, g5, rfl, rfl, rfl, ne34, ne35, ne45, hx3, hx4, hx5, n3, n4, n5, F8⟩
      case k15 =>
        go_simp
        refine hK.out _ _ ⟨cell_one hS0.1 _, cell_one hS0.2 _⟩ (fun hS0 => ?_)
        clear hK K
        try simp only [Act.put]
        obtain ⟨A1, hA1⟩ : ∃ A, A = A0.alloc (.cells #[.int .i64 0, .int .i64 0] 35) := ⟨_, rfl⟩
        obtain ⟨g5, hg5⟩ : ∃ g, g = A0.heap.size := ⟨_, rfl⟩
        have n5 : PosAt A1 g5 0 0 := by rw [hA1, hg5]; exact PosAt.new _ 0 0
        have bl1 : Below A0.heap.size A0 A1 := by rw [hA1]; exact (Below.refl _ _).alloc (Nat.le_refl _) _
        have hz1 : g5 < A1.heap.size := by rw [hA1, hg5]; simp
        have hx5 : x2.heap.size ≤ g5 := by rw [hg5]; exact hzx0
        have hzx1 : x2.heap.size ≤ A1.heap.size := by omega
        rw [← hA1] at hS0 ⊢
        rw [← hg5]
        have n3 := n3.below bl1 n3.lt
        have ne35 : g3 ≠ g5 := by have := hz0; have := HG3.out; omega
        have HG3 := Lib.hid (show g3 < A1.heap.size by have := HG3.out; omega)
        have HG5 := Lib.hid (show g5 < A1.heap.size from hz1)
        clear hA1 hg5
        have E1 := E0.trans (bl1.mono hzx0)
        refine wpAnyH_ready (rs := [4]) (by kernel_rfl) (by simp) ?_
        refine AllReadyH.cons rfl (fun K hK => ?k24) AllReadyH.nil
        case k24 =>
          go_simp
          refine hK.out _ _ ⟨cell_one hS0.1 _, cell_one hS0.2 _⟩ (fun hS0 => ?_)
          clear hK K
          try simp only [Act.put]
          obtain ⟨A2, hA2⟩ : ∃ A, A = A1.alloc (.cells #[.int .i64 0, .int .i64 0] 35) := ⟨_, rfl⟩
          obtain ⟨g4, hg4⟩ : ∃ g, g = A1.heap.size := ⟨_, rfl⟩
          have n4 : PosAt A2 g4 0 0 := by rw [hA2, hg4]; exact PosAt.new _ 0 0
          have bl2 : Below A1.heap.size A1 A2 := by rw [hA2]; exact (Below.refl _ _).alloc (Nat.le_refl _) _
          have hz2 : g4 < A2.heap.size := by rw [hA2, hg4]; simp
          have hx4 : x2.heap.size ≤ g4 := by rw [hg4]; exact hzx1
          have hzx2 : x2.heap.size ≤ A2.heap.size := by omega
          rw [← hA2] at hS0 ⊢
          rw [← hg4]
          have n3 := n3.below bl2 n3.lt
          have ne34 : g3 ≠ g4 := by have := hz1; have := HG3.out; omega
          have HG3 := Lib.hid (show g3 < A2.heap.size by have := HG3.out; omega)
          have n5 := n5.below bl2 n5.lt
          have ne54 : g5 ≠ g4 := by have := hz1; have := HG5.out; omega
          have HG5 := Lib.hid (show g5 < A2.heap.size by have := HG5.out; omega)
          have HG4 := Lib.hid (show g4 < A2.heap.size from hz2)
          clear hA2 hg4
          have E2 := E1.trans (bl2.mono hzx1)
          refine wpAnyH_ready (rs := [6]) (by kernel_rfl) (by simp) ?_
          refine AllReadyH.cons rfl (fun K hK => ?_) AllReadyH.nil
          have c0 := n3.c0
          have c1 := n3.c1
          have cz := fun j => frozen_of_row _ g3 j _ _ n3
          go_simp
          obtain ⟨B6, hB6⟩ : ∃ B, B = ((A2.setCell ⟨g3, 0, none⟩ (.int .i64 i)).setCell ⟨g3, 1, none⟩ (.int .i64 m)) := ⟨_, rfl⟩
          rw [← hB6]
          have F6 : Below x2.heap.size x2 B6 := by rw [hB6]; exact (E2.setCell (p := ⟨g3, 0, none⟩) hx3 _).setCell (p := ⟨g3, 1, none⟩) hx3 _
          have n3 : PosAt B6 g3 i m := by rw [hB6]; exact So.set2 n3
          have n4 := (show PosAt B6 g4 _ _ by rw [hB6]; exact (So.set2_other (ne34.symm)).trans n4)
          have n5 := (show PosAt B6 g5 _ _ by rw [hB6]; exact (So.set2_other (ne35.symm)).trans n5)
          have hP6 := PX.out.below F6 PX.out.lt
          refine hK.out _ _ ⟨hP6.c0, hP6.c1⟩ (fun hS0 => ?_)
          clear hK K c0 c1 cz hB6 hP6
          try simp only [Act.put]
          refine wpAnyH_ready (rs := [7]) (by kernel_rfl) (by simp) ?_
          refine AllReadyH.cons rfl (fun K hK => ?_) AllReadyH.nil
          have c0 := n4.c0
          have c1 := n4.c1
          have cz := fun j => frozen_of_row _ g4 j _ _ n4
          go_simp
          obtain ⟨B7, hB7⟩ : ∃ B, B = ((B6.setCell ⟨g4, 0, none⟩ (.int .i64 i)).setCell ⟨g4, 1, none⟩ (.int .i64 m)) := ⟨_, rfl⟩
          rw [← hB7]
          have F7 : Below x2.heap.size x2 B7 := by rw [hB7]; exact (F6.setCell (p := ⟨g4, 0, none⟩) hx4 _).setCell (p := ⟨g4, 1, none⟩) hx4 _
          have n4 : PosAt B7 g4 i m := by rw [hB7]; exact So.set2 n4
          have n3 := (show PosAt B7 g3 _ _ by rw [hB7]; exact (So.set2_other (ne34)).trans n3)
          have n5 := (show PosAt B7 g5 _ _ by rw [hB7]; exact (So.set2_other (ne54)).trans n5)
          have hP6 := PX.out.below F7 PX.out.lt
          refine hK.out _ _ ⟨hP6.c0, hP6.c1⟩ (fun hS0 => ?_)
          clear hK K c0 c1 cz hB7 hP6
          try simp only [Act.put]
          refine wpAnyH_ready (rs := [8]) (by kernel_rfl) (by simp) ?_
          refine AllReadyH.cons rfl (fun K hK => ?_) AllReadyH.nil
          have c0 := n5.c0
          have c1 := n5.c1
          have cz := fun j => frozen_of_row _ g5 j _ _ n5
          go_simp
          obtain ⟨B8, hB8⟩ : ∃ B, B = ((B7.setCell ⟨g5, 0, none⟩ (.int .i64 i)).setCell ⟨g5, 1, none⟩ (.int .i64 m)) := ⟨_, rfl⟩
          rw [← hB8]
          have F8 : Below x2.heap.size x2 B8 := by rw [hB8]; exact (F7.setCell (p := ⟨g5, 0, none⟩) hx5 _).setCell (p := ⟨g5, 1, none⟩) hx5 _
          have n5 : PosAt B8 g5 i m := by rw [hB8]; exact So.set2 n5
          have n3 := (show PosAt B8 g3 _ _ by rw [hB8]; exact (So.set2_other (ne35)).trans n3)
          have n4 := (show PosAt B8 g4 _ _ by rw [hB8]; exact (So.set2_other (ne54.symm)).trans n4)
          have hP6 := PX.out.below F8 PX.out.lt
          refine hK.out _ _ ⟨hP6.c0, hP6.c1⟩ (fun hS0 => ?_)
          clear hK K c0 c1 cz hB8 hP6
          try simp only [Act.put]
          refine wpAnyH_done (by kernel_rfl) ?_ _
          go_wp2_with fail
          go_meet
          case rel => exact ⟨g3, g4, g5, rfl, rfl, rfl, ne34, ne35, ne54.symm, hx3, hx4, hx5, n3, n4, n5, F8⟩
    case k04 =>
      go_simp
      refine hK.out _ _ ⟨cell_one hS0.1 _, cell_one hS0.2 _⟩ (fun hS0 => ?_)
      clear hK K
      try simp only [Act.put]
      obtain ⟨A0, hA0⟩ : ∃ A, A = xd.alloc (.cells #[.int .i64 0, .int .i64 0] 35) := ⟨_, rfl⟩
      obtain ⟨g4, hg4⟩ : ∃ g, g = xd.heap.size := ⟨_, rfl⟩
      have n4 : PosAt A0 g4 0 0 := by rw [hA0, hg4]; exact PosAt.new _ 0 0
      have bl0 : Below xd.heap.size xd A0 := by rw [hA0]; exact (Below.refl _ _).alloc (Nat.le_refl _) _
      have hz0 : g4 < A0.heap.size := by rw [hA0, hg4]; simp
      have hx4 : x2.heap.size ≤ g4 := by rw [hg4]; exact hbd.size
      have hzx0 : x2.heap.size ≤ A0.heap.size := by omega
      rw [← hA0] at hS0 ⊢
      rw [← hg4]
      have HG4 := Lib.hid (show g4 < A0.heap.size from hz0)
      clear hA0 hg4
      have E0 : Below x2.heap.size x2 A0 := hbd.trans (bl0.mono hbd.size)
      refine wpAnyH_ready (rs := [3, 5]) (by kernel_rfl) (by simp) ?_
      refine AllReadyH.cons rfl (fun K hK => ?k13) (AllReadyH.cons rfl (fun K hK => ?k15) AllReadyH.nil)
      case k13 =>
        go_simp
        refine hK.out _ _ ⟨cell_one hS0.1 _, cell_one hS0.2 _⟩ (fun hS0 => ?_)
        clear hK K
        try simp only [Act.put]
        obtain ⟨A1, hA1⟩ : ∃ A, A = A0.alloc (.cells #[.int .i64 0, .int .i64 0] 35) := ⟨_, rfl⟩
        obtain ⟨g3, hg3⟩ : ∃ g, g = A0.heap.size := ⟨_, rfl⟩
        have n3 : PosAt A1 g3 0 0 := by rw [hA1, hg3]; exact PosAt.new _ 0 0
        have bl1 : Below A0.heap.size A0 A1 := by rw [hA1]; exact (Below.refl _ _).alloc (Nat.le_refl _) _
        have hz1 : g3 < A1.heap.size := by rw [hA1, hg3]; simp
        have hx3 : x2.heap.size ≤ g3 := by rw [hg3]; exact hzx0
        have hzx1 : x2.heap.size ≤ A1.heap.size := by omega
        rw [← hA1] at hS0 ⊢
        rw [← hg3]
        have n4 := n4.below bl1 n4.lt
        have ne43 : g4 ≠ g3 := by have := hz0; have := HG4.out; omega
        have HG4 := Lib.hid (show g4 < A1.heap.size by have := HG4.out; omega)
        have HG3 := Lib.hid (show g3 < A1.heap.size from hz1)
        clear hA1 hg3
        have E1 := E0.trans (bl1.mono hzx0)
        refine wpAnyH_ready (rs := [5]) (by kernel_rfl) (by simp) ?_
        refine AllReadyH.cons rfl (fun K hK => ?k25) AllReadyH.nil
        case k25 =>
          go_simp
          refine hK.out _ _ ⟨cell_one hS0.1 _, cell_one hS0.2 _⟩ (fun hS0 => ?_)
          clear hK K
          try simp only [Act.put]
          obtain ⟨A2, hA2⟩ : ∃ A, A = A1.alloc (.cells #[.int .i64 0, .int .i64 0] 35) := ⟨_, rfl⟩
          obtain ⟨g5, hg5⟩ : ∃ g, g = A1.heap.size := ⟨_, rfl⟩
          have n5 : PosAt A2 g5 0 0 := by rw [hA2, hg5]; exact PosAt.new _ 0 0
          have bl2 : Below A1.heap.size A1 A2 := by rw [hA2]; exact (Below.refl _ _).alloc (Nat.le_refl _) _
          have hz2 : g5 < A2.heap.size := by rw [hA2, hg5]; simp
          have hx5 : x2.heap.size ≤ g5 := by rw [hg5]; exact hzx1
          have hzx2 : x2.heap.size ≤ A2.heap.size := by omega
          rw [← hA2] at hS0 ⊢
          rw [← hg5]
          have n4 := n4.below bl2 n4.lt
          have ne45 : g4 ≠ g5 := by have := hz1; have := HG4.out; omega
          have HG4 := Lib.hid (show g4 < A2.heap.size by have := HG4.out; omega)
          have n3 := n3.below bl2 n3.lt
          have ne35 : g3 ≠ g5 := by have := hz1; have := HG3.out; omega
          have HG3 := Lib.hid (show g3 < A2.heap.size by have := HG3.out; omega)
          have HG5 := Lib.hid (show g5 < A2.heap.size from hz2)
          clear hA2 hg5
          have E2 := E1.trans (bl2.mono hzx1)
          refine wpAnyH_ready (rs := [6]) (by kernel_rfl) (by simp) ?_
          refine AllReadyH.cons rfl (fun K hK => ?_) AllReadyH.nil
          have c0 := n3.c0
          have c1 := n3.c1
          have cz := fun j => frozen_of_row _ g3 j _ _ n3
          go_simp
          obtain ⟨B6, hB6⟩ : ∃ B, B = ((A2.setCell ⟨g3, 0, none⟩ (.int .i64 i)).setCell ⟨g3, 1, none⟩ (.int .i64 m)) := ⟨_, rfl⟩
          rw [← hB6]
          have F6 : Below x2.heap.size x2 B6 := by rw [hB6]; exact (E2.setCell (p := ⟨g3, 0, none⟩) hx3 _).setCell (p := ⟨g3, 1, none⟩) hx3 _
          have n3 : PosAt B6 g3 i m := by rw [hB6]; exact So.set2 n3
          have n4 := (show PosAt B6 g4 _ _ by rw [hB6]; exact (So.set2_other (ne43)).trans n4)
          have n5 := (show PosAt B6 g5 _ _ by rw [hB6]; exact (So.set2_other (ne35.symm)).trans n5)
          have hP6 := PX.out.below F6 PX.out.lt
          refine hK.out _ _ ⟨hP6.c0, hP6.c1⟩ (fun hS0 => ?_)
          clear hK K c0 c1 cz hB6 hP6
          try simp only [Act.put]
          refine wpAnyH_ready (rs := [7]) (by kernel_rfl) (by simp) ?_
          refine AllReadyH.cons rfl (fun K hK => ?_) AllReadyH.nil
          have c0 := n4.c0
          have c1 := n4.c1
          have cz := fun j => frozen_of_row _ g4 j _ _ n4
          go_simp
          obtain ⟨B7, hB7⟩ : ∃ B, B = ((B6.setCell ⟨g4, 0, none⟩ (.int .i64 i)).setCell ⟨g4, 1, none⟩ (.int .i64 m)) := ⟨_, rfl⟩
          rw [← hB7]
          have F7 : Below x2.heap.size x2 B7 := by rw [hB7]; exact (F6.setCell (p := ⟨g4, 0, none⟩) hx4 _).setCell (p := ⟨g4, 1, none⟩) hx4 _
          have n4 : PosAt B7 g4 i m := by rw [hB7]; exact So.set2 n4
          have n3 := (show PosAt B7 g3 _ _ by rw [hB7]; exact (So.set2_other (ne43.symm)).trans n3)
          have n5 := (show PosAt B7 g5 _ _ by rw [hB7]; exact (So.set2_other (ne45.symm)).trans n5)
          have hP6 := PX.out.below F7 PX.out.lt
          refine hK.out _ _ ⟨hP6.c0, hP6.c1⟩ (fun hS0 => ?_)
          clear hK K c0 c1 cz hB7 hP6
          try simp only [Act.put]
          refine wpAnyH_ready (rs := [8]) (by kernel_rfl) (by simp) ?_
          refine AllReadyH.cons rfl (fun K hK => ?_) AllReadyH.nil
          have c0 := n5.c0
          have c1 := n5.c1
          have cz := fun j => frozen_of_row _ g5 j _ _ n5
          go_simp
          obtain ⟨B8, hB8⟩ : ∃ B, B = ((B7.setCell ⟨g5, 0, none⟩ (.int .i64 i)).setCell ⟨g5, 1, none⟩ (.int .i64 m)) := ⟨_, rfl⟩
          rw [← hB8]
          have F8 : Below x2.heap.size x2 B8 := by rw [hB8]; exact (F7.setCell (p := ⟨g5, 0, none⟩) hx5 _).setCell (p := ⟨g5, 1, none⟩) hx5 _
          have n5 : PosAt B8 g5 i m := by rw [hB8]; exact So.set2 n5
          have n3 := (show PosAt B8 g3 _ _ by rw [hB8]; exact (So.set2_other (ne35)).trans n3)
          have n4 := (show PosAt B8 g4 _ _ by rw [hB8]; exact (So.set2_other (ne45)).trans n4)
          have hP6 := PX.out.below F8 PX.out.lt
          refine hK.out _ _ ⟨hP6.c0, hP6.c1⟩ (fun hS0 => ?_)
          clear hK K c0 c1 cz hB8 hP6
          try simp only [Act.put]
          refine wpAnyH_done (by kernel_rfl) ?_ _
          go_wp2_with fail
          go_meet
          case rel => exact ⟨g3, g4, g5, rfl, rfl, rfl, ne43.symm, ne35, ne45, hx3, hx4, hx5, n3, n4, n5, F8⟩
      case k15 =>
        go_simp
        refine hK.out _ _ ⟨cell_one hS0.1 _, cell_one hS0.2 _⟩ (fun hS0 => ?_)
        clear hK K
        try simp only [Act.put]
        obtain ⟨A1, hA1⟩ : ∃ A, A = A0.alloc (.cells #[.int .i64 0, .int .i64 0] 35) := ⟨_, rfl⟩
        obtain ⟨g5, hg5⟩ : ∃ g, g = A0.heap.size := ⟨_, rfl⟩
        have n5 : PosAt A1 g5 0 0 := by rw [hA1, hg5]; exact PosAt.new _ 0 0
        have bl1 : Below A0.heap.size A0 A1 := by rw [hA1]; exact (Below.refl _ _).alloc (Nat.le_refl _) _
        have hz1 : g5 < A1.heap.size := by rw [hA1, hg5]; simp
        have hx5 : x2.heap.size ≤ g5 := by rw [hg5]; exact hzx0
        have hzx1 : x2.heap.size ≤ A1.heap.size := by omega
        rw [← hA1] at hS0 ⊢
        rw [← hg5]
        have n4 := n4.below bl1 n4.lt
        have ne45 : g4 ≠ g5 := by have := hz0; have := HG4.out; omega
        have HG4 := Lib.hid (show g4 < A1.heap.size by have := HG4.out; omega)
        have HG5 := Lib.hid (show g5 < A1.heap.size from hz1)
        clear hA1 hg5
        have E1 := E0.trans (bl1.mono hzx0)
        refine wpAnyH_ready (rs := [3]) (by kernel_rfl) (by simp) ?_
        refine AllReadyH.cons rfl (fun K hK => ?k23) AllReadyH.nil
        case k23 =>
          go_simp
          refine hK.out _ _ ⟨cell_one hS0.1 _, cell_one hS0.2 _⟩ (fun hS0 => ?_)
          clear hK K
          try simp only [Act.put]
          obtain ⟨A2, hA2⟩ : ∃ A, A = A1.alloc (.cells #[.int .i64 0, .int .i64 0] 35) := ⟨_, rfl⟩
          obtain ⟨g3, hg3⟩ : ∃ g, g = A1.heap.size := ⟨_, rfl⟩
          have n3 : PosAt A2 g3 0 0 := by rw [hA2, hg3]; exact PosAt.new _ 0 0
          have bl2 : Below A1.heap.size A1 A2 := by rw [hA2]; exact (Below.refl _ _).alloc (Nat.le_refl _) _
          have hz2 : g3 < A2.heap.size := by rw [hA2, hg3]; simp
          have hx3 : x2.heap.size ≤ g3 := by rw [hg3]; exact hzx1
          have hzx2 : x2.heap.size ≤ A2.heap.size := by omega
          rw [← hA2] at hS0 ⊢
          rw [← hg3]
          have n4 := n4.below bl2 n4.lt
          have ne43 : g4 ≠ g3 := by have := hz1; have := HG4.out; omega
          have HG4 := Lib.hid (show g4 < A2.heap.size by have := HG4.out; omega)
          have n5 := n5.below bl2 n5.lt
          have ne53 : g5 ≠ g3 := by have := hz1; have := HG5.out; omega
          have HG5 := Lib.hid (show g5 < A2.heap.size by have := HG5.out; omega)
          have HG3 := Lib.hid (show g3 < A2.heap.size from hz2)
          clear hA2 hg3
          have E2 := E1.trans (bl2.mono hzx1)
          refine wpAnyH_ready (rs := [6]) (by kernel_rfl) (by simp) ?_
          refine AllReadyH.cons rfl (fun K hK => ?_) AllReadyH.nil
          have c0 := n3.c0
          have c1 := n3.c1
          have cz := fun j => frozen_of_row _ g3 j _ _ n3
          go_simp
          obtain ⟨B6, hB6⟩ : ∃ B, B = ((A2.setCell ⟨g3, 0, none⟩ (.int .i64 i)).setCell ⟨g3, 1, none⟩ (.int .i64 m)) := ⟨_, rfl⟩
          rw [← hB6]
          have F6 : Below x2.heap.size x2 B6 := by rw [hB6]; exact (E2.setCell (p := ⟨g3, 0, none⟩) hx3 _).setCell (p := ⟨g3, 1, none⟩) hx3 _
          have n3 : PosAt B6 g3 i m := by rw [hB6]; exact So.set2 n3
          have n4 := (show PosAt B6 g4 _ _ by rw [hB6]; exact (So.set2_other (ne43)).trans n4)
          have n5 := (show PosAt B6 g5 _ _ by rw [hB6]; exact (So.set2_other (ne53)).trans n5)
          have hP6 := PX.out.below F6 PX.out.lt
          refine hK.out _ _ ⟨hP6.c0, hP6.c1⟩ (fun hS0 => ?_)
          clear hK K c0 c1 cz hB6 hP6
          try simp only [Act.put]
          refine wpAnyH_ready (rs := [7]) (by kernel_rfl) (by simp) ?_
          refine AllReadyH.cons rfl (fun K hK => ?_) AllReadyH.nil
          have c0 := n4.c0
          have c1 := n4.c1
          have cz := fun j => frozen_of_row _ g4 j _ _ n4
          go_simp
          obtain ⟨B7, hB7⟩ : ∃ B, B = ((B6.setCell ⟨g4, 0, none⟩ (.int .i64 i)).setCell ⟨g4, 1, none⟩ (.int .i64 m)) := ⟨_, rfl⟩
          rw [← hB7]
          have F7 : Below x2.heap.size x2 B7 := by rw [hB7]; exact (F6.setCell (p := ⟨g4, 0, none⟩) hx4 _).setCell (p := ⟨g4, 1, none⟩) hx4 _
          have n4 : PosAt B7 g4 i m := by rw [hB7]; exact So.set2 n4
          have n3 := (show PosAt B7 g3 _ _ by rw [hB7]; exact (So.set2_other (ne43.symm)).trans n3)
          have n5 := (show PosAt B7 g5 _ _ by rw [hB7]; exact (So.set2_other (ne45.symm)).trans n5)
          have hP6 := PX.out.below F7 PX.out.lt
          refine hK.out _ _ ⟨hP6.c0, hP6.c1⟩ (fun hS0 => ?_)
          clear hK K c0 c1 cz hB7 hP6
          try simp only [Act.put]
          refine wpAnyH_ready (rs := [8]) (by kernel_rfl) (by simp) ?_
          refine AllReadyH.cons rfl (fun K hK => ?_) AllReadyH.nil
          have c0 := n5.c0
          have c1 := n5.c1
          have cz := fun j => frozen_of_row _ g5 j _ _ n5
          go_simp
          obtain ⟨B8, hB8⟩ : ∃ B, B = ((B7.setCell ⟨g5, 0, none⟩ (.int .i64 i)).setCell ⟨g5, 1, none⟩ (.int .i64 m)) := ⟨_, rfl⟩
          rw [← hB8]
          have F8 : Below x2.heap.size x2 B8 := by rw [hB8]; exact (F7.setCell (p := ⟨g5, 0, none⟩) hx5 _).setCell (p := ⟨g5, 1, none⟩) hx5 _
          have n5 : PosAt B8 g5 i m := by rw [hB8]; exact So.set2 n5
          have n3 := (show PosAt B8 g3 _ _ by rw [hB8]; exact (So.set2_other (ne53.symm)).trans n3)
          have n4 := (show PosAt B8 g4 _ _ by rw [hB8]; exact (So.set2_other (ne45)).trans n4)
          have hP6 := PX.out.below F8 PX.out.lt
          refine hK.out _ _ ⟨hP6.c0, hP6.c1⟩ (fun hS0 => ?_)
          clear hK K c0 c1 cz hB8 hP6
          try simp only [Act.put]
          refine wpAnyH_done (by kernel_rfl) ?_ _
          go_wp2_with fail
          go_meet
          case rel => exact ⟨g3, g4, g5, rfl, rfl, rfl, ne43.symm, ne53.symm, ne45, hx3, hx4, hx5, n3, n4, n5, F8⟩
    case k05 =>
      go_simp
      refine hK.out _ _ ⟨cell_one hS0.1 _, cell_one hS0.2 _⟩ (fun hS0 => ?_)
      clear hK K
      try simp only [Act.put]
      obtain ⟨A0, hA0⟩ : ∃ A, A = xd.alloc (.cells #[.int .i64 0, .int .i64 0] 35) := ⟨_, rfl⟩
      obtain ⟨g5, hg5⟩ : ∃ g, g = xd.heap.size := ⟨_, rfl⟩
      have n5 : PosAt A0 g5 0 0 := by rw [hA0, hg5]; exact PosAt.new _ 0 0
      have bl0 : Below xd.heap.size xd A0 := by rw [hA0]; exact (Below.refl _ _).alloc (Nat.le_refl _) _
      have hz0 : g5 < A0.heap.size := by rw [hA0, hg5]; simp
      have hx5 : x2.heap.size ≤ g5 := by rw [hg5]; exact hbd.size
      have hzx0 : x2.heap.size ≤ A0.heap.size := by omega
      rw [← hA0] at hS0 ⊢
      rw [← hg5]
      have HG5 := Lib.hid (show g5 < A0.heap.size from hz0)
      clear hA0 hg5
      have E0 : Below x2.heap.size x2 A0 := hbd.trans (bl0.mono hbd.size)
      refine wpAnyH_ready (rs := [3, 4]) (by kernel_rfl) (by simp) ?_
      refine AllReadyH.cons rfl (fun K hK => ?k13) (AllReadyH.cons rfl (fun K hK => ?k14) AllReadyH.nil)
      case k13 =>
        go_simp
        refine hK.out _ _ ⟨cell_one hS0.1 _, cell_one hS0.2 _⟩ (fun hS0 => ?_)
        clear hK K
        try simp only [Act.put]
        obtain ⟨A1, hA1⟩ : ∃ A, A = A0.alloc (.cells #[.int .i64 0, .int .i64 0] 35) := ⟨_, rfl⟩
        obtain ⟨g3, hg3⟩ : ∃ g, g = A0.heap.size := ⟨_, rfl⟩
        have n3 : PosAt A1 g3 0 0 := by rw [hA1, hg3]; exact PosAt.new _ 0 0
        have bl1 : Below A0.heap.size A0 A1 := by rw [hA1]; exact (Below.refl _ _).alloc (Nat.le_refl _) _
        have hz1 : g3 < A1.heap.size := by rw [hA1, hg3]; simp
        have hx3 : x2.heap.size ≤ g3 := by rw [hg3]; exact hzx0
        have hzx1 : x2.heap.size ≤ A1.heap.size := by omega
        rw [← hA1] at hS0 ⊢
        rw [← hg3]
        have n5 := n5.below bl1 n5.lt
        have ne53 : g5 ≠ g3 := by have := hz0; have := HG5.out; omega
        have HG5 := Lib.hid (show g5 < A1.heap.size by have := HG5.out; omega)
        have HG3 := Lib.hid (show g3 < A1.heap.size from hz1)
        clear hA1 hg3
        have E1 := E0.trans (bl1.mono hzx0)
        refine wpAnyH_ready (rs := [4]) (by kernel_rfl) (by simp) ?_
        refine AllReadyH.cons rfl (fun K hK => ?k24) AllReadyH.nil
        case k24 =>
          go_simp
          refine hK.out _ _ ⟨cell_one hS0.1 _, cell_one hS0.2 _⟩ (fun hS0 => ?_)
          clear hK K
          try simp only [Act.put]
          obtain ⟨A2, hA2⟩ : ∃ A, A = A1.alloc (.cells #[.int .i64 0, .int .i64 0] 35) := ⟨_, rfl⟩
          obtain ⟨g4, hg4⟩ : ∃ g, g = A1.heap.size := ⟨_, rfl⟩
          have n4 : PosAt A2 g4 0 0 := by rw [hA2, hg4]; exact PosAt.new _ 0 0
          have bl2 : Below A1.heap.size A1 A2 := by rw [hA2]; exact (Below.refl _ _).alloc (Nat.le_refl _) _
          have hz2 : g4 < A2.heap.size := by rw [hA2, hg4]; simp
          have hx4 : x2.heap.size ≤ g4 := by rw [hg4]; exact hzx1
          have hzx2 : x2.heap.size ≤ A2.heap.size := by omega
          rw [← hA2] at hS0 ⊢
          rw [← hg4]
          have n5 := n5.below bl2 n5.lt
          have ne54 : g5 ≠ g4 := by have := hz1; have := HG5.out; omega
          have HG5 := Lib.hid (show g5 < A2.heap.size by have := HG5.out; omega)
          have n3 := n3.below bl2 n3.lt
          have ne34 : g3 ≠ g4 := by have := hz1; have := HG3.out; omega
          have HG3 := Lib.hid (show g3 < A2.heap.size by have := HG3.out; omega)
          have HG4 := Lib.hid (show g4 < A2.heap.size from hz2)
          clear hA2 hg4
          have E2 := E1.trans (bl2.mono hzx1)
          refine wpAnyH_ready (rs := [6]) (by kernel_rfl) (by simp) ?_
          refine AllReadyH.cons rfl (fun K hK => ?_) AllReadyH.nil
          have c0 := n3.c0
          have c1 := n3.c1
          have cz := fun j => frozen_of_row _ g3 j _ _ n3
          go_simp
          obtain ⟨B6, hB6⟩ : ∃ B, B = ((A2.setCell ⟨g3, 0, none⟩ (.int .i64 i)).setCell ⟨g3, 1, none⟩ (.int .i64 m)) := ⟨_, rfl⟩
          rw [← hB6]
          have F6 : Below x2.heap.size x2 B6 := by rw [hB6]; exact (E2.setCell (p := ⟨g3, 0, none⟩) hx3 _).setCell (p := ⟨g3, 1, none⟩) hx3 _
          have n3 : PosAt B6 g3 i m := by rw [hB6]; exact So.set2 n3
          have n4 := (show PosAt B6 g4 _ _ by rw [hB6]; exact (So.set2_other (ne34.symm)).trans n4)
          have n5 := (show PosAt B6 g5 _ _ by rw [hB6]; exact (So.set2_other (ne53)).trans n5)
          have hP6 := PX.out.below F6 PX.out.lt
          refine hK.out _ _ ⟨hP6.c0, hP6.c1⟩ (fun hS0 => ?_)
          clear hK K c0 c1 cz hB6 hP6
          try simp only [Act.put]
          refine wpAnyH_ready (rs := [7]) (by kernel_rfl) (by simp) ?_
          refine AllReadyH.cons rfl (fun K hK => ?_) AllReadyH.nil
          have c0 := n4.c0
          have c1 := n4.c1
          have cz := fun j => frozen_of_row _ g4 j _ _ n4
          go_simp
          obtain ⟨B7, hB7⟩ : ∃ B, B = ((B6.setCell ⟨g4, 0, none⟩ (.int .i64 i)).setCell ⟨g4, 1, none⟩ (.int .i64 m)) := ⟨_, rfl⟩
          rw [← hB7]
          have F7 : Below x2.heap.size x2 B7 := by rw [hB7]; exact (F6.setCell (p := ⟨g4, 0, none⟩) hx4 _).setCell (p := ⟨g4, 1, none⟩) hx4 _
          have n4 : PosAt B7 g4 i m := by rw [hB7]; exact So.set2 n4
          have n3 := (show PosAt B7 g3 _ _ by rw [hB7]; exact (So.set2_other (ne34)).trans n3)
          have n5 := (show PosAt B7 g5 _ _ by rw [hB7]; exact (So.set2_other (ne54)).trans n5)
          have hP6 := PX.out.below F7 PX.out.lt
          refine hK.out _ _ ⟨hP6.c0, hP6.c1⟩ (fun hS0 => ?_)
          clear hK K c0 c1 cz hB7 hP6
          try simp only [Act.put]
          refine wpAnyH_ready (rs := [8]) (by kernel_rfl) (by simp) ?_
          refine AllReadyH.cons rfl (fun K hK => ?_) AllReadyH.nil
          have c0 := n5.c0
          have c1 := n5.c1
          have cz := fun j => frozen_of_row _ g5 j _ _ n5
          go_simp
          obtain ⟨B8, hB8⟩ : ∃ B, B = ((B7.setCell ⟨g5, 0, none⟩ (.int .i64 i)).setCell ⟨g5, 1, none⟩ (.int .i64 m)) := ⟨_, rfl⟩
          rw [← hB8]
          have F8 : Below x2.heap.size x2 B8 := by rw [hB8]; exact (F7.setCell (p := ⟨g5, 0, none⟩) hx5 _).setCell (p := ⟨g5, 1, none⟩) hx5 _
          have n5 : PosAt B8 g5 i m := by rw [hB8]; exact So.set2 n5
          have n3 := (show PosAt B8 g3 _ _ by rw [hB8]; exact (So.set2_other (ne53.symm)).trans n3)
          have n4 := (show PosAt B8 g4 _ _ by rw [hB8]; exact (So.set2_other (ne54.symm)).trans n4)
          have hP6 := PX.out.below F8 PX.out.lt
          refine hK.out _ _ ⟨hP6.c0, hP6.c1⟩ (fun hS0 => ?_)
          clear hK K c0 c1 cz hB8 hP6
          try simp only [Act.put]
          refine wpAnyH_done (by kernel_rfl) ?_ _
          go_wp2_with fail
          go_meet
          case rel => exact ⟨g3, g4, g5, rfl, rfl, rfl, ne34, ne53.symm, ne54.symm, hx3, hx4, hx5, n3, n4, n5, F8⟩
      case k14 =>
        go_simp
        refine hK.out _ _ ⟨cell_one hS0.1 _, cell_one hS0.2 _⟩ (fun hS0 => ?_)
        clear hK K
        try simp only [Act.put]
        obtain ⟨A1, hA1⟩ : ∃ A, A = A0.alloc (.cells #[.int .i64 0, .int .i64 0] 35) := ⟨_, rfl⟩
        obtain ⟨g4, hg4⟩ : ∃ g, g = A0.heap.size := ⟨_, rfl⟩
        have n4 : PosAt A1 g4 0 0 := by rw [hA1, hg4]; exact PosAt.new _ 0 0
        have bl1 : Below A0.heap.size A0 A1 := by rw [hA1]; exact (Below.refl _ _).alloc (Nat.le_refl _) _
        have hz1 : g4 < A1.heap.size := by rw [hA1, hg4]; simp
        have hx4 : x2.heap.size ≤ g4 := by rw [hg4]; exact hzx0
        have hzx1 : x2.heap.size ≤ A1.heap.size := by omega
        rw [← hA1] at hS0 ⊢
        rw [← hg4]
        have n5 := n5.below bl1 n5.lt
        have ne54 : g5 ≠ g4 := by have := hz0; have := HG5.out; omega
        have HG5 := Lib.hid (show g5 < A1.heap.size by have := HG5.out; omega)
        have HG4 := Lib.hid (show g4 < A1.heap.size from hz1)
        clear hA1 hg4
        have E1 := E0.trans (bl1.mono hzx0)
        refine wpAnyH_ready (rs := [3]) (by kernel_rfl) (by simp) ?_
        refine AllReadyH.cons rfl (fun K hK => ?k23) AllReadyH.nil
        case k23 =>
          go_simp
          refine hK.out _ _ ⟨cell_one hS0.1 _, cell_one hS0.2 _⟩ (fun hS0 => ?_)
          clear hK K
          try simp only [Act.put]
          obtain ⟨A2, hA2⟩ : ∃ A, A = A1.alloc (.cells #[.int .i64 0, .int .i64 0] 35) := ⟨_, rfl⟩
          obtain ⟨g3, hg3⟩ : ∃ g, g = A1.heap.size := ⟨_, rfl⟩
          have n3 : PosAt A2 g3 0 0 := by rw [hA2, hg3]; exact PosAt.new _ 0 0
          have bl2 : Below A1.heap.size A1 A2 := by rw [hA2]; exact (Below.refl _ _).alloc (Nat.le_refl _) _
          have hz2 : g3 < A2.heap.size := by rw [hA2, hg3]; simp
          have hx3 : x2.heap.size ≤ g3 := by rw [hg3]; exact hzx1
          have hzx2 : x2.heap.size ≤ A2.heap.size := by omega
          rw [← hA2] at hS0 ⊢
          rw [← hg3]
          have n5 := n5.below bl2 n5.lt
          have ne53 : g5 ≠ g3 := by have := hz1; have := HG5.out; omega
          have HG5 := Lib.hid (show g5 < A2.heap.size by have := HG5.out; omega)
          have n4 := n4.below bl2 n4.lt
          have ne43 : g4 ≠ g3 := by have := hz1; have := HG4.out; omega
          have HG4 := Lib.hid (show g4 < A2.heap.size by have := HG4.out; omega)
          have HG3 := Lib.hid (show g3 < A2.heap.size from hz2)
          clear hA2 hg3
          have E2 := E1.trans (bl2.mono hzx1)
          refine wpAnyH_ready (rs := [6]) (by kernel_rfl) (by simp) ?_
          refine AllReadyH.cons rfl (fun K hK => ?_) AllReadyH.nil
          have c0 := n3.c0
          have c1 := n3.c1
          have cz := fun j => frozen_of_row _ g3 j _ _ n3
          go_simp
          obtain ⟨B6, hB6⟩ : ∃ B, B = ((A2.setCell ⟨g3, 0, none⟩ (.int .i64 i)).setCell ⟨g3, 1, none⟩ (.int .i64 m)) := ⟨_, rfl⟩
          rw [← hB6]
          have F6 : Below x2.heap.size x2 B6 := by rw [hB6]; exact (E2.setCell (p := ⟨g3, 0, none⟩) hx3 _).setCell (p := ⟨g3, 1, none⟩) hx3 _
          have n3 : PosAt B6 g3 i m := by rw [hB6]; exact So.set2 n3
          have n4 := (show PosAt B6 g4 _ _ by rw [hB6]; exact (So.set2_other (ne43)).trans n4)
          have n5 := (show PosAt B6 g5 _ _ by rw [hB6]; exact (So.set2_other (ne53)).trans n5)
          have hP6 := PX.out.below F6 PX.out.lt
          refine hK.out _ _ ⟨hP6.c0, hP6.c1⟩ (fun hS0 => ?_)
          clear hK K c0 c1 cz hB6 hP6
          try simp only [Act.put]
          refine wpAnyH_ready (rs := [7]) (by kernel_rfl) (by simp) ?_
          refine AllReadyH.cons rfl (fun K hK => ?_) AllReadyH.nil
          have c0 := n4.c0
          have c1 := n4.c1
          have cz := fun j => frozen_of_row _ g4 j _ _ n4
          go_simp
          obtain ⟨B7, hB7⟩ : ∃ B, B = ((B6.setCell ⟨g4, 0, none⟩ (.int .i64 i)).setCell ⟨g4, 1, none⟩ (.int .i64 m)) := ⟨_, rfl⟩
          rw [← hB7]
          have F7 : Below x2.heap.size x2 B7 := by rw [hB7]; exact (F6.setCell (p := ⟨g4, 0, none⟩) hx4 _).setCell (p := ⟨g4, 1, none⟩) hx4 _
          have n4 : PosAt B7 g4 i m := by rw [hB7]; exact So.set2 n4
          have n3 := (show PosAt B7 g3 _ _ by rw [hB7]; exact (So.set2_other (ne43.symm)).trans n3)
          have n5 := (show PosAt B7 g5 _ _ by rw [hB7]; exact (So.set2_other (ne54)).trans n5)
          have hP6 := PX.out.below F7 PX.out.lt
          refine hK.out _ _ ⟨hP6.c0, hP6.c1⟩ (fun hS0 => ?_)
          clear hK K c0 c1 cz hB7 hP6
          try simp only [Act.put]
          refine wpAnyH_ready (rs := [8]) (by kernel_rfl) (by simp) ?_
          refine AllReadyH.cons rfl (fun K hK => ?_) AllReadyH.nil
          have c0 := n5.c0
          have c1 := n5.c1
          have cz := fun j => frozen_of_row _ g5 j _ _ n5
          go_simp
          obtain ⟨B8, hB8⟩ : ∃ B, B = ((B7.setCell ⟨g5, 0, none⟩ (.int .i64 i)).setCell ⟨g5, 1, none⟩ (.int .i64 m)) := ⟨_, rfl⟩
          rw [← hB8]
          have F8 : Below x2.heap.size x2 B8 := by rw [hB8]; exact (F7.setCell (p := ⟨g5, 0, none⟩) hx5 _).setCell (p := ⟨g5, 1, none⟩) hx5 _
          have n5 : PosAt B8 g5 i m := by rw [hB8]; exact So.set2 n5
          have n3 := (show PosAt B8 g3 _ _ by rw [hB8]; exact (So.set2_other (ne53.symm)).trans n3)
          have n4 := (show PosAt B8 g4 _ _ by rw [hB8]; exact (So.set2_other (ne54.symm)).trans n4)
          have hP6 := PX.out.below F8 PX.out.lt
          refine hK.out _ _ ⟨hP6.c0, hP6.c1⟩ (fun hS0 => ?_)
          clear hK K c0 c1 cz hB8 hP6
          try simp only [Act.put]
          refine wpAnyH_done (by kernel_rfl) ?_ _
          go_wp2_with fail
          go_meet
          case rel => exact ⟨g3, g4, g5, rfl, rfl, rfl, ne43.symm, ne53.symm, ne54.symm, hx3, hx4, hx5, n3, n4, n5, F8⟩
  case rest =>
    obtain ⟨b_Q, b_R, b_S, rfl, rfl, rfl, HC⟩ := hcut
    obtain ⟨nQR, nQS, nRS, gQ, gR, gS, pQ, pR, pS, hE⟩ := HC.out
    have n_Q_R := Lib.hid nQR
    have n_Q_S := Lib.hid nQS
    have n_R_S := Lib.hid nRS
    have g_Q_E := Lib.hid gQ
    have g_R_E := Lib.hid gR
    have g_S_E := Lib.hid gS
    have HC2 := Lib.hid (And.intro pQ (And.intro pR (And.intro pS hE)))
    clear nQR nQS nRS gQ gR gS pQ pR pS hE HC D P
    go_wp2
    go_loopw [16, 17, 18, 19] (fun s16 s17 s18 s19 wr => ∃ (k : Nat) (ox oy oz : Bool) (qx qy qz : P2), k ≤ K ∧ s16 = .bool ox ∧ s17 = .bool oy ∧ s18 = .bool oz ∧ s19 = .int .i64 k ∧
      Hid (Stp (FN big ls) (i, m) k qx ox ∧ Stp (FB big ls) (i, m) k qy oy ∧ Stp (FT big ls) (i, m) k qz oz ∧ PosAt wr b_Q qx.1 qx.2 ∧ PosAt wr b_R qy.1 qy.2 ∧ PosAt wr b_S qz.1 qz.2 ∧ Below x2.heap.size x2 wr)) (fun _ _ _ s19 _ => K - (RowKit.intOf s19).toNat)
    case atStart => exact ⟨0, true, true, true, (i, m), (i, m), (i, m), Nat.zero_le _, rfl, rfl, rfl, rfl, Stp.zero _ _, Stp.zero _ _, Stp.zero _ _, HC2.out.1, HC2.out.2.1, HC2.out.2.2.1, HC2.out.2.2.2⟩
    case round =>
      obtain ⟨k, ox, oy, oz, qx, qy, qz, hkK, rfl, rfl, rfl, rfl, HR⟩ := hrel
      have Q := Lib.hid HR.out.2.2.2.1
      have R := Lib.hid HR.out.2.2.2.2.1
      have S := Lib.hid HR.out.2.2.2.2.2.1
      have E := Lib.hid HR.out.2.2.2.2.2.2
      by_cases hk : k < K
      · cases ox
        · cases oy
          · cases oz
            · have c_Q := Q.out
              have Q0 := c_Q.c0
              have Q1 := c_Q.c1
              have Qz := fun k => frozen_of_row _ b_Q k _ _ c_Q
              clear c_Q
              have c_R := R.out
              have R0 := c_R.c0
              have R1 := c_R.c1
              have Rz := fun k => frozen_of_row _ b_R k _ _ c_R
              clear c_R
              have c_S := S.out
              have S0 := c_S.c0
              have S1 := c_S.c1
              have Sz := fun k => frozen_of_row _ b_S k _ _ c_S
              clear c_S
              go_upto_region 13 with fail
              obtain ⟨y0, hy0⟩ : ∃ y0, y0 = wr.alloc (.cells #[.int .i64 0, .int .i64 0, .int .i64 0, .bool false, .int .i64 0] 40) := ⟨_, rfl⟩
              have hA : Below wr.heap.size wr y0 := by rw [hy0]; exact (Below.refl _ wr).alloc (Nat.le_refl _) _
              have hV := MvAt.new wr 0 0 0 0 false
              rw [← hy0] at hV ⊢
              have lt_Q := Q.out.lt
              have lt_R := R.out.lt
              have lt_S := S.out.lt
              have gg_E := E.out.size
              have E := Lib.hid (below_on E.out hA)
              have Q := Lib.hid (Q.out.below hA Q.out.lt)
              have R := Lib.hid (R.out.below hA R.out.lt)
              have S := Lib.hid (S.out.below hA S.out.lt)
              obtain ⟨b_V, hbf⟩ : ∃ b, b = wr.heap.size := ⟨_, rfl⟩
              rw [← hbf] at hV ⊢
              have n_Q_V := Lib.hid (show b_Q ≠ b_V by omega)
              clear lt_Q
              have n_R_V := Lib.hid (show b_R ≠ b_V by omega)
              clear lt_R
              have n_S_V := Lib.hid (show b_S ≠ b_V by omega)
              clear lt_S
              have g_V_E := Lib.hid (show x2.heap.size ≤ b_V by rw [hbf]; exact gg_E)
              clear gg_E
              have V := Lib.hid hV
              clear hV hA hy0 hbf
              clear Q0 Q1 Qz R0 R1 Rz S0 S1 Sz
              have c_Q := Q.out
              have Q0 := c_Q.c0
              have Q1 := c_Q.c1
              have Qz := fun k => frozen_of_row _ b_Q k _ _ c_Q
              clear c_Q
              have c_R := R.out
              have R0 := c_R.c0
              have R1 := c_R.c1
              have Rz := fun k => frozen_of_row _ b_R k _ _ c_R
              clear c_R
              have c_S := S.out
              have S0 := c_S.c0
              have S1 := c_S.c1
              have Sz := fun k => frozen_of_row _ b_S k _ _ c_S
              clear c_S
              have c_V := V.out
              have V0 := c_V.c0
              have V1 := c_V.c1
              have V2 := c_V.c2
              have V3 := c_V.c3
              have V4 := c_V.c4
              have Vz := c_V.z
              clear c_V
              go_wp2
              go_roundw
              case rel => exact ⟨k + 1, false, false, false, qx, qy, qz, by omega, rfl, rfl, rfl, by go_num, Stp.stay HR.out.1, Stp.stay HR.out.2.1, Stp.stay HR.out.2.2.1, Q.out, R.out, S.out, E.out⟩
              case measure => simp [RowKit.intOf]; omega
            · have c_Q := Q.out
              have Q0 := c_Q.c0
              have Q1 := c_Q.c1
              have Qz := fun k => frozen_of_row _ b_Q k _ _ c_Q
              clear c_Q
              have c_R := R.out
              have R0 := c_R.c0
              have R1 := c_R.c1
              have Rz := fun k => frozen_of_row _ b_R k _ _ c_R
              clear c_R
              have c_S := S.out
              have S0 := c_S.c0
              have S1 := c_S.c1
              have Sz := fun k => frozen_of_row _ b_S k _ _ c_S
              clear c_S
              go_upto_region 13 with fail
              obtain ⟨y0, hy0⟩ : ∃ y0, y0 = wr.alloc (.cells #[.int .i64 0, .int .i64 0, .int .i64 0, .bool false, .int .i64 0] 40) := ⟨_, rfl⟩
              have hA : Below wr.heap.size wr y0 := by rw [hy0]; exact (Below.refl _ wr).alloc (Nat.le_refl _) _
              have hV := MvAt.new wr 0 0 0 0 false
              rw [← hy0] at hV ⊢
              have lt_Q := Q.out.lt
              have lt_R := R.out.lt
              have lt_S := S.out.lt
              have gg_E := E.out.size
              have E := Lib.hid (below_on E.out hA)
              have Q := Lib.hid (Q.out.below hA Q.out.lt)
              have R := Lib.hid (R.out.below hA R.out.lt)
              have S := Lib.hid (S.out.below hA S.out.lt)
              obtain ⟨b_V, hbf⟩ : ∃ b, b = wr.heap.size := ⟨_, rfl⟩
              rw [← hbf] at hV ⊢
              have n_Q_V := Lib.hid (show b_Q ≠ b_V by omega)
              clear lt_Q
              have n_R_V := Lib.hid (show b_R ≠ b_V by omega)
              clear lt_R
              have n_S_V := Lib.hid (show b_S ≠ b_V by omega)
              clear lt_S
              have g_V_E := Lib.hid (show x2.heap.size ≤ b_V by rw [hbf]; exact gg_E)
              clear gg_E
              have V := Lib.hid hV
              clear hV hA hy0 hbf
              clear Q0 Q1 Qz R0 R1 Rz S0 S1 Sz
              have c_Q := Q.out
              have Q0 := c_Q.c0
              have Q1 := c_Q.c1
              have Qz := fun k => frozen_of_row _ b_Q k _ _ c_Q
              clear c_Q
              have c_R := R.out
              have R0 := c_R.c0
              have R1 := c_R.c1
              have Rz := fun k => frozen_of_row _ b_R k _ _ c_R
              clear c_R
              have c_S := S.out
              have S0 := c_S.c0
              have S1 := c_S.c1
              have Sz := fun k => frozen_of_row _ b_S k _ _ c_S
              clear c_S
              have c_V := V.out
              have V0 := c_V.c0
              have V1 := c_V.c1
              have V2 := c_V.c2
              have V3 := c_V.c3
              have V4 := c_V.c4
              have Vz := c_V.z
              clear c_V
              obtain ⟨tz, ht⟩ : ∃ t : P2 × Bool, t = nthV (FT big ls qz) 1 := ⟨_, rfl⟩
              have hstz := Lib.hid (Stp.step (F := FT big ls) (fun pre rest x hh => aft_next (mks_sorted _) hh) HR.out.2.2.1 ht)
              have hpl := Stp.plc (ls := ls) HR.out.2.2.1 HPL.out (fun x hx => mem_eds (List.mem_filter.1 hx).1)
              obtain ⟨wyz, wtz, hf0⟩ := tail_form (k := 1) (Nat.le_refl _) hpl ht
              have hf : tailR ls qz.1 qz.2 1 big false = ⟨tz.1.1, tz.1.2, wyz, false, wtz, tz.2⟩ := hf0
              have hc := tail_any a n c' ls qz.1 qz.2 1 big false y0 (SrcV.below HS1.out (below_on DX.out E.out)) hs (by omega) (by omega)
              rw [hf] at hc
              dsimp only [Mv.R.v] at hc
              clear ht hpl hf0 hf
              go_wp2_with fail
              refine (hc).mono ?_
              rintro e v3 ⟨rfl, hb⟩
              clear Q0 Q1 Qz R0 R1 Rz S0 S1 Sz V0 V1 V2 V3 V4 Vz
              have E := Lib.hid (below_on E.out hb)
              have Q := Lib.hid (Q.out.below hb Q.out.lt)
              have R := Lib.hid (R.out.below hb R.out.lt)
              have S := Lib.hid (S.out.below hb S.out.lt)
              have V := Lib.hid (V.out.below hb V.out.lt)
              clear hb hc
              have c_Q := Q.out
              have Q0 := c_Q.c0
              have Q1 := c_Q.c1
              have Qz := fun k => frozen_of_row _ b_Q k _ _ c_Q
              clear c_Q
              have c_R := R.out
              have R0 := c_R.c0
              have R1 := c_R.c1
              have Rz := fun k => frozen_of_row _ b_R k _ _ c_R
              clear c_R
              have c_S := S.out
              have S0 := c_S.c0
              have S1 := c_S.c1
              have Sz := fun k => frozen_of_row _ b_S k _ _ c_S
              clear c_S
              have c_V := V.out
              have V0 := c_V.c0
              have V1 := c_V.c1
              have V2 := c_V.c2
              have V3 := c_V.c3
              have V4 := c_V.c4
              have Vz := c_V.z
              clear c_V
              go_upto_region 21 with fail
              clear Q0 Q1 Qz R0 R1 Rz S0 S1 Sz V0 V1 V2 V3 V4 Vz
              obtain ⟨y3, hy3⟩ : ∃ y3, y3 = put5 v3 b_V tz.1.1 tz.1.2 wyz false wtz := ⟨_, rfl⟩
              have ey3 := hy3.symm
              unfold put5 at ey3
              rw [ey3]
              clear ey3
              have E := Lib.hid (show Below x2.heap.size x2 y3 by rw [hy3]; exact put5_below E.out g_V_E.out _ _ _ _ _)
              have Q := Lib.hid (show PosAt y3 b_Q (qx.1 : Int) (qx.2 : Int) by rw [hy3]; exact Q.out.other5 (n_Q_V.out))
              have R := Lib.hid (show PosAt y3 b_R (qy.1 : Int) (qy.2 : Int) by rw [hy3]; exact R.out.other5 (n_R_V.out))
              have S := Lib.hid (show PosAt y3 b_S (qz.1 : Int) (qz.2 : Int) by rw [hy3]; exact S.out.other5 (n_S_V.out))
              have V := Lib.hid (show MvAt y3 b_V tz.1.1 tz.1.2 wyz false wtz by rw [hy3]; exact V.out.put _ _ _ _ _)
              clear hy3
              have c_Q := Q.out
              have Q0 := c_Q.c0
              have Q1 := c_Q.c1
              have Qz := fun k => frozen_of_row _ b_Q k _ _ c_Q
              clear c_Q
              have c_R := R.out
              have R0 := c_R.c0
              have R1 := c_R.c1
              have Rz := fun k => frozen_of_row _ b_R k _ _ c_R
              clear c_R
              have c_S := S.out
              have S0 := c_S.c0
              have S1 := c_S.c1
              have Sz := fun k => frozen_of_row _ b_S k _ _ c_S
              clear c_S
              have c_V := V.out
              have V0 := c_V.c0
              have V1 := c_V.c1
              have V2 := c_V.c2
              have V3 := c_V.c3
              have V4 := c_V.c4
              have Vz := c_V.z
              clear c_V
              clear Q0 Q1 Qz R0 R1 Rz S0 S1 Sz V0 V1 V2 V3 V4 Vz
              have c_Q := Q.out
              have Q0 := c_Q.c0
              have Q1 := c_Q.c1
              have Qz := fun k => frozen_of_row _ b_Q k _ _ c_Q
              clear c_Q
              have c_R := R.out
              have R0 := c_R.c0
              have R1 := c_R.c1
              have Rz := fun k => frozen_of_row _ b_R k _ _ c_R
              clear c_R
              have c_S := S.out
              have S0 := c_S.c0
              have S1 := c_S.c1
              have Sz := fun k => frozen_of_row _ b_S k _ _ c_S
              clear c_S
              have c_V := V.out
              have V0 := c_V.c0
              have V1 := c_V.c1
              have V2 := c_V.c2
              have V3 := c_V.c3
              have V4 := c_V.c4
              have Vz := c_V.z
              clear c_V
              go_upto_region 11 with fail
              clear Q0 Q1 Qz R0 R1 Rz S0 S1 Sz V0 V1 V2 V3 V4 Vz
              obtain ⟨z3, hz3⟩ : ∃ z3, z3 = ((y3.setCell ⟨b_S, 0, none⟩ (.int .i64 tz.1.1)).setCell ⟨b_S, 1, none⟩ (.int .i64 tz.1.2)) := ⟨_, rfl⟩
              rw [← hz3]
              have E := Lib.hid (show Below x2.heap.size x2 z3 by rw [hz3]; exact (E.out.setCell (p := ⟨b_S, 0, none⟩) g_S_E.out _).setCell (p := ⟨b_S, 1, none⟩) g_S_E.out _)
              have Q := Lib.hid (show PosAt z3 b_Q (qx.1 : Int) (qx.2 : Int) by rw [hz3]; exact (So.set2_other (n_Q_S.out)).trans Q.out)
              have R := Lib.hid (show PosAt z3 b_R (qy.1 : Int) (qy.2 : Int) by rw [hz3]; exact (So.set2_other (n_R_S.out)).trans R.out)
              have S := Lib.hid (show PosAt z3 b_S tz.1.1 tz.1.2 by rw [hz3]; exact So.set2 S.out)
              have V := Lib.hid (show MvAt z3 b_V tz.1.1 tz.1.2 wyz false wtz by rw [hz3]; exact (So.set2_other (n_S_V.out.symm)).trans V.out)
              clear hz3
              have c_Q := Q.out
              have Q0 := c_Q.c0
              have Q1 := c_Q.c1
              have Qz := fun k => frozen_of_row _ b_Q k _ _ c_Q
              clear c_Q
              have c_R := R.out
              have R0 := c_R.c0
              have R1 := c_R.c1
              have Rz := fun k => frozen_of_row _ b_R k _ _ c_R
              clear c_R
              have c_S := S.out
              have S0 := c_S.c0
              have S1 := c_S.c1
              have Sz := fun k => frozen_of_row _ b_S k _ _ c_S
              clear c_S
              have c_V := V.out
              have V0 := c_V.c0
              have V1 := c_V.c1
              have V2 := c_V.c2
              have V3 := c_V.c3
              have V4 := c_V.c4
              have Vz := c_V.z
              clear c_V
              go_wp2
              go_roundw
              case rel => exact ⟨k + 1, false, false, tz.2, qx, qy, tz.1, by omega, rfl, rfl, rfl, by go_num, Stp.stay HR.out.1, Stp.stay HR.out.2.1, hstz.out, Q.out, R.out, S.out, E.out⟩
              case measure => simp [RowKit.intOf]; omega
          · cases oz
            · have c_Q := Q.out
              have Q0 := c_Q.c0
              have Q1 := c_Q.c1
              have Qz := fun k => frozen_of_row _ b_Q k _ _ c_Q
              clear c_Q
              have c_R := R.out
              have R0 := c_R.c0
              have R1 := c_R.c1
              have Rz := fun k => frozen_of_row _ b_R k _ _ c_R
              clear c_R
              have c_S := S.out
              have S0 := c_S.c0
              have S1 := c_S.c1
              have Sz := fun k => frozen_of_row _ b_S k _ _ c_S
              clear c_S
              go_upto_region 13 with fail
              obtain ⟨y0, hy0⟩ : ∃ y0, y0 = wr.alloc (.cells #[.int .i64 0, .int .i64 0, .int .i64 0, .bool false, .int .i64 0] 40) := ⟨_, rfl⟩
              have hA : Below wr.heap.size wr y0 := by rw [hy0]; exact (Below.refl _ wr).alloc (Nat.le_refl _) _
              have hV := MvAt.new wr 0 0 0 0 false
              rw [← hy0] at hV ⊢
              have lt_Q := Q.out.lt
              have lt_R := R.out.lt
              have lt_S := S.out.lt
              have gg_E := E.out.size
              have E := Lib.hid (below_on E.out hA)
              have Q := Lib.hid (Q.out.below hA Q.out.lt)
              have R := Lib.hid (R.out.below hA R.out.lt)
              have S := Lib.hid (S.out.below hA S.out.lt)
              obtain ⟨b_V, hbf⟩ : ∃ b, b = wr.heap.size := ⟨_, rfl⟩
              rw [← hbf] at hV ⊢
              have n_Q_V := Lib.hid (show b_Q ≠ b_V by omega)
              clear lt_Q
              have n_R_V := Lib.hid (show b_R ≠ b_V by omega)
              clear lt_R
              have n_S_V := Lib.hid (show b_S ≠ b_V by omega)
              clear lt_S
              have g_V_E := Lib.hid (show x2.heap.size ≤ b_V by rw [hbf]; exact gg_E)
              clear gg_E
              have V := Lib.hid hV
              clear hV hA hy0 hbf
              clear Q0 Q1 Qz R0 R1 Rz S0 S1 Sz
              have c_Q := Q.out
              have Q0 := c_Q.c0
              have Q1 := c_Q.c1
              have Qz := fun k => frozen_of_row _ b_Q k _ _ c_Q
              clear c_Q
              have c_R := R.out
              have R0 := c_R.c0
              have R1 := c_R.c1
              have Rz := fun k => frozen_of_row _ b_R k _ _ c_R
              clear c_R
              have c_S := S.out
              have S0 := c_S.c0
              have S1 := c_S.c1
              have Sz := fun k => frozen_of_row _ b_S k _ _ c_S
              clear c_S
              have c_V := V.out
              have V0 := c_V.c0
              have V1 := c_V.c1
              have V2 := c_V.c2
              have V3 := c_V.c3
              have V4 := c_V.c4
              have Vz := c_V.z
              clear c_V
              obtain ⟨ty, ht⟩ : ∃ t : P2 × Bool, t = nthV (FB big ls qy) 1 := ⟨_, rfl⟩
              have hsty := Lib.hid (Stp.step (F := FB big ls) (fun pre rest x hh => bef_next (mks_sorted _) hh) HR.out.2.1 ht)
              have hpl := Stp.plc (ls := ls) HR.out.2.1 HPL.out (fun x hx => mem_sts (List.mem_filter.1 (List.mem_reverse.1 hx)).1)
              obtain ⟨wyy, wty, hf0⟩ := back_form (k := 1) (Nat.le_refl _) hpl ht
              have hf : backR ls qy.1 qy.2 1 big = ⟨ty.1.1, ty.1.2, wyy, false, wty, ty.2⟩ := hf0
              have hc := back_any a n c' ls qy.1 qy.2 1 big y0 (SrcV.below HS1.out (below_on DX.out E.out)) hs (by omega) (by omega)
              rw [hf] at hc
              dsimp only [Mv.R.v] at hc
              clear ht hpl hf0 hf
              go_wp2_with fail
              refine (hc).mono ?_
              rintro e v2 ⟨rfl, hb⟩
              clear Q0 Q1 Qz R0 R1 Rz S0 S1 Sz V0 V1 V2 V3 V4 Vz
              have E := Lib.hid (below_on E.out hb)
              have Q := Lib.hid (Q.out.below hb Q.out.lt)
              have R := Lib.hid (R.out.below hb R.out.lt)
              have S := Lib.hid (S.out.below hb S.out.lt)
              have V := Lib.hid (V.out.below hb V.out.lt)
              clear hb hc
              have c_Q := Q.out
              have Q0 := c_Q.c0
              have Q1 := c_Q.c1
              have Qz := fun k => frozen_of_row _ b_Q k _ _ c_Q
              clear c_Q
              have c_R := R.out
              have R0 := c_R.c0
              have R1 := c_R.c1
              have Rz := fun k => frozen_of_row _ b_R k _ _ c_R
              clear c_R
              have c_S := S.out
              have S0 := c_S.c0
              have S1 := c_S.c1
              have Sz := fun k => frozen_of_row _ b_S k _ _ c_S
              clear c_S
              have c_V := V.out
              have V0 := c_V.c0
              have V1 := c_V.c1
              have V2 := c_V.c2
              have V3 := c_V.c3
              have V4 := c_V.c4
              have Vz := c_V.z
              clear c_V
              go_upto_region 18 with fail
              clear Q0 Q1 Qz R0 R1 Rz S0 S1 Sz V0 V1 V2 V3 V4 Vz
              obtain ⟨y2, hy2⟩ : ∃ y2, y2 = put5 v2 b_V ty.1.1 ty.1.2 wyy false wty := ⟨_, rfl⟩
              have ey2 := hy2.symm
              unfold put5 at ey2
              rw [ey2]
              clear ey2
              have E := Lib.hid (show Below x2.heap.size x2 y2 by rw [hy2]; exact put5_below E.out g_V_E.out _ _ _ _ _)
              have Q := Lib.hid (show PosAt y2 b_Q (qx.1 : Int) (qx.2 : Int) by rw [hy2]; exact Q.out.other5 (n_Q_V.out))
              have R := Lib.hid (show PosAt y2 b_R (qy.1 : Int) (qy.2 : Int) by rw [hy2]; exact R.out.other5 (n_R_V.out))
              have S := Lib.hid (show PosAt y2 b_S (qz.1 : Int) (qz.2 : Int) by rw [hy2]; exact S.out.other5 (n_S_V.out))
              have V := Lib.hid (show MvAt y2 b_V ty.1.1 ty.1.2 wyy false wty by rw [hy2]; exact V.out.put _ _ _ _ _)
              clear hy2
              have c_Q := Q.out
              have Q0 := c_Q.c0
              have Q1 := c_Q.c1
              have Qz := fun k => frozen_of_row _ b_Q k _ _ c_Q
              clear c_Q
              have c_R := R.out
              have R0 := c_R.c0
              have R1 := c_R.c1
              have Rz := fun k => frozen_of_row _ b_R k _ _ c_R
              clear c_R
              have c_S := S.out
              have S0 := c_S.c0
              have S1 := c_S.c1
              have Sz := fun k => frozen_of_row _ b_S k _ _ c_S
              clear c_S
              have c_V := V.out
              have V0 := c_V.c0
              have V1 := c_V.c1
              have V2 := c_V.c2
              have V3 := c_V.c3
              have V4 := c_V.c4
              have Vz := c_V.z
              clear c_V
              clear Q0 Q1 Qz R0 R1 Rz S0 S1 Sz V0 V1 V2 V3 V4 Vz
              have c_Q := Q.out
              have Q0 := c_Q.c0
              have Q1 := c_Q.c1
              have Qz := fun k => frozen_of_row _ b_Q k _ _ c_Q
              clear c_Q
              have c_R := R.out
              have R0 := c_R.c0
              have R1 := c_R.c1
              have Rz := fun k => frozen_of_row _ b_R k _ _ c_R
              clear c_R
              have c_S := S.out
              have S0 := c_S.c0
              have S1 := c_S.c1
              have Sz := fun k => frozen_of_row _ b_S k _ _ c_S
              clear c_S
              have c_V := V.out
              have V0 := c_V.c0
              have V1 := c_V.c1
              have V2 := c_V.c2
              have V3 := c_V.c3
              have V4 := c_V.c4
              have Vz := c_V.z
              clear c_V
              go_upto_region 19 with fail
              clear Q0 Q1 Qz R0 R1 Rz S0 S1 Sz V0 V1 V2 V3 V4 Vz
              obtain ⟨z2, hz2⟩ : ∃ z2, z2 = ((y2.setCell ⟨b_R, 0, none⟩ (.int .i64 ty.1.1)).setCell ⟨b_R, 1, none⟩ (.int .i64 ty.1.2)) := ⟨_, rfl⟩
              rw [← hz2]
              have E := Lib.hid (show Below x2.heap.size x2 z2 by rw [hz2]; exact (E.out.setCell (p := ⟨b_R, 0, none⟩) g_R_E.out _).setCell (p := ⟨b_R, 1, none⟩) g_R_E.out _)
              have Q := Lib.hid (show PosAt z2 b_Q (qx.1 : Int) (qx.2 : Int) by rw [hz2]; exact (So.set2_other (n_Q_R.out)).trans Q.out)
              have R := Lib.hid (show PosAt z2 b_R ty.1.1 ty.1.2 by rw [hz2]; exact So.set2 R.out)
              have S := Lib.hid (show PosAt z2 b_S (qz.1 : Int) (qz.2 : Int) by rw [hz2]; exact (So.set2_other (n_R_S.out.symm)).trans S.out)
              have V := Lib.hid (show MvAt z2 b_V ty.1.1 ty.1.2 wyy false wty by rw [hz2]; exact (So.set2_other (n_R_V.out.symm)).trans V.out)
              clear hz2
              have c_Q := Q.out
              have Q0 := c_Q.c0
              have Q1 := c_Q.c1
              have Qz := fun k => frozen_of_row _ b_Q k _ _ c_Q
              clear c_Q
              have c_R := R.out
              have R0 := c_R.c0
              have R1 := c_R.c1
              have Rz := fun k => frozen_of_row _ b_R k _ _ c_R
              clear c_R
              have c_S := S.out
              have S0 := c_S.c0
              have S1 := c_S.c1
              have Sz := fun k => frozen_of_row _ b_S k _ _ c_S
              clear c_S
              have c_V := V.out
              have V0 := c_V.c0
              have V1 := c_V.c1
              have V2 := c_V.c2
              have V3 := c_V.c3
              have V4 := c_V.c4
              have Vz := c_V.z
              clear c_V
              go_wp2
              go_roundw
              case rel => exact ⟨k + 1, false, ty.2, false, qx, ty.1, qz, by omega, rfl, rfl, rfl, by go_num, Stp.stay HR.out.1, hsty.out, Stp.stay HR.out.2.2.1, Q.out, R.out, S.out, E.out⟩
              case measure => simp [RowKit.intOf]; omega
            · have c_Q := Q.out
              have Q0 := c_Q.c0
              have Q1 := c_Q.c1
              have Qz := fun k => frozen_of_row _ b_Q k _ _ c_Q
              clear c_Q
              have c_R := R.out
              have R0 := c_R.c0
              have R1 := c_R.c1
              have Rz := fun k => frozen_of_row _ b_R k _ _ c_R
              clear c_R
              have c_S := S.out
              have S0 := c_S.c0
              have S1 := c_S.c1
              have Sz := fun k => frozen_of_row _ b_S k _ _ c_S
              clear c_S
              go_upto_region 13 with fail
              obtain ⟨y0, hy0⟩ : ∃ y0, y0 = wr.alloc (.cells #[.int .i64 0, .int .i64 0, .int .i64 0, .bool false, .int .i64 0] 40) := ⟨_, rfl⟩
              have hA : Below wr.heap.size wr y0 := by rw [hy0]; exact (Below.refl _ wr).alloc (Nat.le_refl _) _
              have hV := MvAt.new wr 0 0 0 0 false
              rw [← hy0] at hV ⊢
              have lt_Q := Q.out.lt
              have lt_R := R.out.lt
              have lt_S := S.out.lt
              have gg_E := E.out.size
              have E := Lib.hid (below_on E.out hA)
              have Q := Lib.hid (Q.out.below hA Q.out.lt)
              have R := Lib.hid (R.out.below hA R.out.lt)
              have S := Lib.hid (S.out.below hA S.out.lt)
              obtain ⟨b_V, hbf⟩ : ∃ b, b = wr.heap.size := ⟨_, rfl⟩
              rw [← hbf] at hV ⊢
              have n_Q_V := Lib.hid (show b_Q ≠ b_V by omega)
              clear lt_Q
              have n_R_V := Lib.hid (show b_R ≠ b_V by omega)
              clear lt_R
              have n_S_V := Lib.hid (show b_S ≠ b_V by omega)
              clear lt_S
              have g_V_E := Lib.hid (show x2.heap.size ≤ b_V by rw [hbf]; exact gg_E)
              clear gg_E
              have V := Lib.hid hV
              clear hV hA hy0 hbf
              clear Q0 Q1 Qz R0 R1 Rz S0 S1 Sz
              have c_Q := Q.out
              have Q0 := c_Q.c0
              have Q1 := c_Q.c1
              have Qz := fun k => frozen_of_row _ b_Q k _ _ c_Q
              clear c_Q
              have c_R := R.out
              have R0 := c_R.c0
              have R1 := c_R.c1
              have Rz := fun k => frozen_of_row _ b_R k _ _ c_R
              clear c_R
              have c_S := S.out
              have S0 := c_S.c0
              have S1 := c_S.c1
              have Sz := fun k => frozen_of_row _ b_S k _ _ c_S
              clear c_S
              have c_V := V.out
              have V0 := c_V.c0
              have V1 := c_V.c1
              have V2 := c_V.c2
              have V3 := c_V.c3
              have V4 := c_V.c4
              have Vz := c_V.z
              clear c_V
              obtain ⟨ty, ht⟩ : ∃ t : P2 × Bool, t = nthV (FB big ls qy) 1 := ⟨_, rfl⟩
              have hsty := Lib.hid (Stp.step (F := FB big ls) (fun pre rest x hh => bef_next (mks_sorted _) hh) HR.out.2.1 ht)
              have hpl := Stp.plc (ls := ls) HR.out.2.1 HPL.out (fun x hx => mem_sts (List.mem_filter.1 (List.mem_reverse.1 hx)).1)
              obtain ⟨wyy, wty, hf0⟩ := back_form (k := 1) (Nat.le_refl _) hpl ht
              have hf : backR ls qy.1 qy.2 1 big = ⟨ty.1.1, ty.1.2, wyy, false, wty, ty.2⟩ := hf0
              have hc := back_any a n c' ls qy.1 qy.2 1 big y0 (SrcV.below HS1.out (below_on DX.out E.out)) hs (by omega) (by omega)
              rw [hf] at hc
              dsimp only [Mv.R.v] at hc
              clear ht hpl hf0 hf
              go_wp2_with fail
              refine (hc).mono ?_
              rintro e v2 ⟨rfl, hb⟩
              clear Q0 Q1 Qz R0 R1 Rz S0 S1 Sz V0 V1 V2 V3 V4 Vz
              have E := Lib.hid (below_on E.out hb)
              have Q := Lib.hid (Q.out.below hb Q.out.lt)
              have R := Lib.hid (R.out.below hb R.out.lt)
              have S := Lib.hid (S.out.below hb S.out.lt)
              have V := Lib.hid (V.out.below hb V.out.lt)
              clear hb hc
              have c_Q := Q.out
              have Q0 := c_Q.c0
              have Q1 := c_Q.c1
              have Qz := fun k => frozen_of_row _ b_Q k _ _ c_Q
              clear c_Q
              have c_R := R.out
              have R0 := c_R.c0
              have R1 := c_R.c1
              have Rz := fun k => frozen_of_row _ b_R k _ _ c_R
              clear c_R
              have c_S := S.out
              have S0 := c_S.c0
              have S1 := c_S.c1
              have Sz := fun k => frozen_of_row _ b_S k _ _ c_S
              clear c_S
              have c_V := V.out
              have V0 := c_V.c0
              have V1 := c_V.c1
              have V2 := c_V.c2
              have V3 := c_V.c3
              have V4 := c_V.c4
              have Vz := c_V.z
              clear c_V
              go_upto_region 18 with fail
              clear Q0 Q1 Qz R0 R1 Rz S0 S1 Sz V0 V1 V2 V3 V4 Vz
              obtain ⟨y2, hy2⟩ : ∃ y2, y2 = put5 v2 b_V ty.1.1 ty.1.2 wyy false wty := ⟨_, rfl⟩
              have ey2 := hy2.symm
              unfold put5 at ey2
              rw [ey2]
              clear ey2
              have E := Lib.hid (show Below x2.heap.size x2 y2 by rw [hy2]; exact put5_below E.out g_V_E.out _ _ _ _ _)
              have Q := Lib.hid (show PosAt y2 b_Q (qx.1 : Int) (qx.2 : Int) by rw [hy2]; exact Q.out.other5 (n_Q_V.out))
              have R := Lib.hid (show PosAt y2 b_R (qy.1 : Int) (qy.2 : Int) by rw [hy2]; exact R.out.other5 (n_R_V.out))
              have S := Lib.hid (show PosAt y2 b_S (qz.1 : Int) (qz.2 : Int) by rw [hy2]; exact S.out.other5 (n_S_V.out))
              have V := Lib.hid (show MvAt y2 b_V ty.1.1 ty.1.2 wyy false wty by rw [hy2]; exact V.out.put _ _ _ _ _)
              clear hy2
              have c_Q := Q.out
              have Q0 := c_Q.c0
              have Q1 := c_Q.c1
              have Qz := fun k => frozen_of_row _ b_Q k _ _ c_Q
              clear c_Q
              have c_R := R.out
              have R0 := c_R.c0
              have R1 := c_R.c1
              have Rz := fun k => frozen_of_row _ b_R k _ _ c_R
              clear c_R
              have c_S := S.out
              have S0 := c_S.c0
              have S1 := c_S.c1
              have Sz := fun k => frozen_of_row _ b_S k _ _ c_S
              clear c_S
              have c_V := V.out
              have V0 := c_V.c0
              have V1 := c_V.c1
              have V2 := c_V.c2
              have V3 := c_V.c3
              have V4 := c_V.c4
              have Vz := c_V.z
              clear c_V
              clear Q0 Q1 Qz R0 R1 Rz S0 S1 Sz V0 V1 V2 V3 V4 Vz
              have c_Q := Q.out
              have Q0 := c_Q.c0
              have Q1 := c_Q.c1
              have Qz := fun k => frozen_of_row _ b_Q k _ _ c_Q
              clear c_Q
              have c_R := R.out
              have R0 := c_R.c0
              have R1 := c_R.c1
              have Rz := fun k => frozen_of_row _ b_R k _ _ c_R
              clear c_R
              have c_S := S.out
              have S0 := c_S.c0
              have S1 := c_S.c1
              have Sz := fun k => frozen_of_row _ b_S k _ _ c_S
              clear c_S
              have c_V := V.out
              have V0 := c_V.c0
              have V1 := c_V.c1
              have V2 := c_V.c2
              have V3 := c_V.c3
              have V4 := c_V.c4
              have Vz := c_V.z
              clear c_V
              go_upto_region 19 with fail
              clear Q0 Q1 Qz R0 R1 Rz S0 S1 Sz V0 V1 V2 V3 V4 Vz
              obtain ⟨z2, hz2⟩ : ∃ z2, z2 = ((y2.setCell ⟨b_R, 0, none⟩ (.int .i64 ty.1.1)).setCell ⟨b_R, 1, none⟩ (.int .i64 ty.1.2)) := ⟨_, rfl⟩
              rw [← hz2]
              have E := Lib.hid (show Below x2.heap.size x2 z2 by rw [hz2]; exact (E.out.setCell (p := ⟨b_R, 0, none⟩) g_R_E.out _).setCell (p := ⟨b_R, 1, none⟩) g_R_E.out _)
              have Q := Lib.hid (show PosAt z2 b_Q (qx.1 : Int) (qx.2 : Int) by rw [hz2]; exact (So.set2_other (n_Q_R.out)).trans Q.out)
              have R := Lib.hid (show PosAt z2 b_R ty.1.1 ty.1.2 by rw [hz2]; exact So.set2 R.out)
              have S := Lib.hid (show PosAt z2 b_S (qz.1 : Int) (qz.2 : Int) by rw [hz2]; exact (So.set2_other (n_R_S.out.symm)).trans S.out)
              have V := Lib.hid (show MvAt z2 b_V ty.1.1 ty.1.2 wyy false wty by rw [hz2]; exact (So.set2_other (n_R_V.out.symm)).trans V.out)
              clear hz2
              have c_Q := Q.out
              have Q0 := c_Q.c0
              have Q1 := c_Q.c1
              have Qz := fun k => frozen_of_row _ b_Q k _ _ c_Q
              clear c_Q
              have c_R := R.out
              have R0 := c_R.c0
              have R1 := c_R.c1
              have Rz := fun k => frozen_of_row _ b_R k _ _ c_R
              clear c_R
              have c_S := S.out
              have S0 := c_S.c0
              have S1 := c_S.c1
              have Sz := fun k => frozen_of_row _ b_S k _ _ c_S
              clear c_S
              have c_V := V.out
              have V0 := c_V.c0
              have V1 := c_V.c1
              have V2 := c_V.c2
              have V3 := c_V.c3
              have V4 := c_V.c4
              have Vz := c_V.z
              clear c_V
              obtain ⟨tz, ht⟩ : ∃ t : P2 × Bool, t = nthV (FT big ls qz) 1 := ⟨_, rfl⟩
              have hstz := Lib.hid (Stp.step (F := FT big ls) (fun pre rest x hh => aft_next (mks_sorted _) hh) HR.out.2.2.1 ht)
              have hpl := Stp.plc (ls := ls) HR.out.2.2.1 HPL.out (fun x hx => mem_eds (List.mem_filter.1 hx).1)
              obtain ⟨wyz, wtz, hf0⟩ := tail_form (k := 1) (Nat.le_refl _) hpl ht
              have hf : tailR ls qz.1 qz.2 1 big false = ⟨tz.1.1, tz.1.2, wyz, false, wtz, tz.2⟩ := hf0
              have hc := tail_any a n c' ls qz.1 qz.2 1 big false z2 (SrcV.below HS1.out (below_on DX.out E.out)) hs (by omega) (by omega)
              rw [hf] at hc
              dsimp only [Mv.R.v] at hc
              clear ht hpl hf0 hf
              go_wp2_with fail
              refine (hc).mono ?_
              rintro e v3 ⟨rfl, hb⟩
              clear Q0 Q1 Qz R0 R1 Rz S0 S1 Sz V0 V1 V2 V3 V4 Vz
              have E := Lib.hid (below_on E.out hb)
              have Q := Lib.hid (Q.out.below hb Q.out.lt)
              have R := Lib.hid (R.out.below hb R.out.lt)
              have S := Lib.hid (S.out.below hb S.out.lt)
              have V := Lib.hid (V.out.below hb V.out.lt)
              clear hb hc
              have c_Q := Q.out
              have Q0 := c_Q.c0
              have Q1 := c_Q.c1
              have Qz := fun k => frozen_of_row _ b_Q k _ _ c_Q
              clear c_Q
              have c_R := R.out
              have R0 := c_R.c0
              have R1 := c_R.c1
              have Rz := fun k => frozen_of_row _ b_R k _ _ c_R
              clear c_R
              have c_S := S.out
              have S0 := c_S.c0
              have S1 := c_S.c1
              have Sz := fun k => frozen_of_row _ b_S k _ _ c_S
              clear c_S
              have c_V := V.out
              have V0 := c_V.c0
              have V1 := c_V.c1
              have V2 := c_V.c2
              have V3 := c_V.c3
              have V4 := c_V.c4
              have Vz := c_V.z
              clear c_V
              go_upto_region 21 with fail
              clear Q0 Q1 Qz R0 R1 Rz S0 S1 Sz V0 V1 V2 V3 V4 Vz
              obtain ⟨y3, hy3⟩ : ∃ y3, y3 = put5 v3 b_V tz.1.1 tz.1.2 wyz false wtz := ⟨_, rfl⟩
              have ey3 := hy3.symm
              unfold put5 at ey3
              rw [ey3]
              clear ey3
              have E := Lib.hid (show Below x2.heap.size x2 y3 by rw [hy3]; exact put5_below E.out g_V_E.out _ _ _ _ _)
              have Q := Lib.hid (show PosAt y3 b_Q (qx.1 : Int) (qx.2 : Int) by rw [hy3]; exact Q.out.other5 (n_Q_V.out))
              have R := Lib.hid (show PosAt y3 b_R ty.1.1 ty.1.2 by rw [hy3]; exact R.out.other5 (n_R_V.out))
              have S := Lib.hid (show PosAt y3 b_S (qz.1 : Int) (qz.2 : Int) by rw [hy3]; exact S.out.other5 (n_S_V.out))
              have V := Lib.hid (show MvAt y3 b_V tz.1.1 tz.1.2 wyz false wtz by rw [hy3]; exact V.out.put _ _ _ _ _)
              clear hy3
              have c_Q := Q.out
              have Q0 := c_Q.c0
              have Q1 := c_Q.c1
              have Qz := fun k => frozen_of_row _ b_Q k _ _ c_Q
              clear c_Q
              have c_R := R.out
              have R0 := c_R.c0
              have R1 := c_R.c1
              have Rz := fun k => frozen_of_row _ b_R k _ _ c_R
              clear c_R
              have c_S := S.out
              have S0 := c_S.c0
              have S1 := c_S.c1
              have Sz := fun k => frozen_of_row _ b_S k _ _ c_S
              clear c_S
              have c_V := V.out
              have V0 := c_V.c0
              have V1 := c_V.c1
              have V2 := c_V.c2
              have V3 := c_V.c3
              have V4 := c_V.c4
              have Vz := c_V.z
              clear c_V
              clear Q0 Q1 Qz R0 R1 Rz S0 S1 Sz V0 V1 V2 V3 V4 Vz
              have c_Q := Q.out
              have Q0 := c_Q.c0
              have Q1 := c_Q.c1
              have Qz := fun k => frozen_of_row _ b_Q k _ _ c_Q
              clear c_Q
              have c_R := R.out
              have R0 := c_R.c0
              have R1 := c_R.c1
              have Rz := fun k => frozen_of_row _ b_R k _ _ c_R
              clear c_R
              have c_S := S.out
              have S0 := c_S.c0
              have S1 := c_S.c1
              have Sz := fun k => frozen_of_row _ b_S k _ _ c_S
              clear c_S
              have c_V := V.out
              have V0 := c_V.c0
              have V1 := c_V.c1
              have V2 := c_V.c2
              have V3 := c_V.c3
              have V4 := c_V.c4
              have Vz := c_V.z
              clear c_V
              go_upto_region 11 with fail
              clear Q0 Q1 Qz R0 R1 Rz S0 S1 Sz V0 V1 V2 V3 V4 Vz
              obtain ⟨z3, hz3⟩ : ∃ z3, z3 = ((y3.setCell ⟨b_S, 0, none⟩ (.int .i64 tz.1.1)).setCell ⟨b_S, 1, none⟩ (.int .i64 tz.1.2)) := ⟨_, rfl⟩
              rw [← hz3]
              have E := Lib.hid (show Below x2.heap.size x2 z3 by rw [hz3]; exact (E.out.setCell (p := ⟨b_S, 0, none⟩) g_S_E.out _).setCell (p := ⟨b_S, 1, none⟩) g_S_E.out _)
              have Q := Lib.hid (show PosAt z3 b_Q (qx.1 : Int) (qx.2 : Int) by rw [hz3]; exact (So.set2_other (n_Q_S.out)).trans Q.out)
              have R := Lib.hid (show PosAt z3 b_R ty.1.1 ty.1.2 by rw [hz3]; exact (So.set2_other (n_R_S.out)).trans R.out)
              have S := Lib.hid (show PosAt z3 b_S tz.1.1 tz.1.2 by rw [hz3]; exact So.set2 S.out)
              have V := Lib.hid (show MvAt z3 b_V tz.1.1 tz.1.2 wyz false wtz by rw [hz3]; exact (So.set2_other (n_S_V.out.symm)).trans V.out)
              clear hz3
              have c_Q := Q.out
              have Q0 := c_Q.c0
              have Q1 := c_Q.c1
              have Qz := fun k => frozen_of_row _ b_Q k _ _ c_Q
              clear c_Q
              have c_R := R.out
              have R0 := c_R.c0
              have R1 := c_R.c1
              have Rz := fun k => frozen_of_row _ b_R k _ _ c_R
              clear c_R
              have c_S := S.out
              have S0 := c_S.c0
              have S1 := c_S.c1
              have Sz := fun k => frozen_of_row _ b_S k _ _ c_S
              clear c_S
              have c_V := V.out
              have V0 := c_V.c0
              have V1 := c_V.c1
              have V2 := c_V.c2
              have V3 := c_V.c3
              have V4 := c_V.c4
              have Vz := c_V.z
              clear c_V
              go_wp2
              go_roundw
              case rel => exact ⟨k + 1, false, ty.2, tz.2, qx, ty.1, tz.1, by omega, rfl, rfl, rfl, by go_num, Stp.stay HR.out.1, hsty.out, hstz.out, Q.out, R.out, S.out, E.out⟩
              case measure => simp [RowKit.intOf]; omega
        · cases oy
          · cases oz
            · have c_Q := Q.out
              have Q0 := c_Q.c0
              have Q1 := c_Q.c1
              have Qz := fun k => frozen_of_row _ b_Q k _ _ c_Q
              clear c_Q
              have c_R := R.out
              have R0 := c_R.c0
              have R1 := c_R.c1
              have Rz := fun k => frozen_of_row _ b_R k _ _ c_R
              clear c_R
              have c_S := S.out
              have S0 := c_S.c0
              have S1 := c_S.c1
              have Sz := fun k => frozen_of_row _ b_S k _ _ c_S
              clear c_S
              go_upto_region 13 with fail
              obtain ⟨y0, hy0⟩ : ∃ y0, y0 = wr.alloc (.cells #[.int .i64 0, .int .i64 0, .int .i64 0, .bool false, .int .i64 0] 40) := ⟨_, rfl⟩
              have hA : Below wr.heap.size wr y0 := by rw [hy0]; exact (Below.refl _ wr).alloc (Nat.le_refl _) _
              have hV := MvAt.new wr 0 0 0 0 false
              rw [← hy0] at hV ⊢
              have lt_Q := Q.out.lt
              have lt_R := R.out.lt
              have lt_S := S.out.lt
              have gg_E := E.out.size
              have E := Lib.hid (below_on E.out hA)
              have Q := Lib.hid (Q.out.below hA Q.out.lt)
              have R := Lib.hid (R.out.below hA R.out.lt)
              have S := Lib.hid (S.out.below hA S.out.lt)
              obtain ⟨b_V, hbf⟩ : ∃ b, b = wr.heap.size := ⟨_, rfl⟩
              rw [← hbf] at hV ⊢
              have n_Q_V := Lib.hid (show b_Q ≠ b_V by omega)
              clear lt_Q
              have n_R_V := Lib.hid (show b_R ≠ b_V by omega)
              clear lt_R
              have n_S_V := Lib.hid (show b_S ≠ b_V by omega)
              clear lt_S
              have g_V_E := Lib.hid (show x2.heap.size ≤ b_V by rw [hbf]; exact gg_E)
              clear gg_E
              have V := Lib.hid hV
              clear hV hA hy0 hbf
              clear Q0 Q1 Qz R0 R1 Rz S0 S1 Sz
              have c_Q := Q.out
              have Q0 := c_Q.c0
              have Q1 := c_Q.c1
              have Qz := fun k => frozen_of_row _ b_Q k _ _ c_Q
              clear c_Q
              have c_R := R.out
              have R0 := c_R.c0
              have R1 := c_R.c1
              have Rz := fun k => frozen_of_row _ b_R k _ _ c_R
              clear c_R
              have c_S := S.out
              have S0 := c_S.c0
              have S1 := c_S.c1
              have Sz := fun k => frozen_of_row _ b_S k _ _ c_S
              clear c_S
              have c_V := V.out
              have V0 := c_V.c0
              have V1 := c_V.c1
              have V2 := c_V.c2
              have V3 := c_V.c3
              have V4 := c_V.c4
              have Vz := c_V.z
              clear c_V
              obtain ⟨tx, ht⟩ : ∃ t : P2 × Bool, t = nthV (FN big ls qx) 1 := ⟨_, rfl⟩
              have hstx := Lib.hid (Stp.step (F := FN big ls) (fun pre rest x hh => aft_next (mks_sorted _) hh) HR.out.1 ht)
              have hpl := Stp.plc (ls := ls) HR.out.1 HPL.out (fun x hx => mem_sts (List.mem_filter.1 hx).1)
              obtain ⟨wyx, wtx, hf0⟩ := next_form (k := 1) (Nat.le_refl _) hpl ht
              have hf : nextR ls qx.1 qx.2 1 big false = ⟨tx.1.1, tx.1.2, wyx, false, wtx, tx.2⟩ := hf0
              have hc := next_any a n c' ls qx.1 qx.2 1 big false y0 (SrcV.below HS1.out (below_on DX.out E.out)) hs (by omega) (by omega)
              rw [hf] at hc
              dsimp only [Mv.R.v] at hc
              clear ht hpl hf0 hf
              go_wp2_with fail
              refine (hc).mono ?_
              rintro e v1 ⟨rfl, hb⟩
              clear Q0 Q1 Qz R0 R1 Rz S0 S1 Sz V0 V1 V2 V3 V4 Vz
              have E := Lib.hid (below_on E.out hb)
              have Q := Lib.hid (Q.out.below hb Q.out.lt)
              have R := Lib.hid (R.out.below hb R.out.lt)
              have S := Lib.hid (S.out.below hb S.out.lt)
              have V := Lib.hid (V.out.below hb V.out.lt)
              clear hb hc
              have c_Q := Q.out
              have Q0 := c_Q.c0
              have Q1 := c_Q.c1
              have Qz := fun k => frozen_of_row _ b_Q k _ _ c_Q
              clear c_Q
              have c_R := R.out
              have R0 := c_R.c0
              have R1 := c_R.c1
              have Rz := fun k => frozen_of_row _ b_R k _ _ c_R
              clear c_R
              have c_S := S.out
              have S0 := c_S.c0
              have S1 := c_S.c1
              have Sz := fun k => frozen_of_row _ b_S k _ _ c_S
              clear c_S
              have c_V := V.out
              have V0 := c_V.c0
              have V1 := c_V.c1
              have V2 := c_V.c2
              have V3 := c_V.c3
              have V4 := c_V.c4
              have Vz := c_V.z
              clear c_V
              go_upto_region 15 with fail
              clear Q0 Q1 Qz R0 R1 Rz S0 S1 Sz V0 V1 V2 V3 V4 Vz
              obtain ⟨y1, hy1⟩ : ∃ y1, y1 = put5 v1 b_V tx.1.1 tx.1.2 wyx false wtx := ⟨_, rfl⟩
              have ey1 := hy1.symm
              unfold put5 at ey1
              rw [ey1]
              clear ey1
              have E := Lib.hid (show Below x2.heap.size x2 y1 by rw [hy1]; exact put5_below E.out g_V_E.out _ _ _ _ _)
              have Q := Lib.hid (show PosAt y1 b_Q (qx.1 : Int) (qx.2 : Int) by rw [hy1]; exact Q.out.other5 (n_Q_V.out))
              have R := Lib.hid (show PosAt y1 b_R (qy.1 : Int) (qy.2 : Int) by rw [hy1]; exact R.out.other5 (n_R_V.out))
              have S := Lib.hid (show PosAt y1 b_S (qz.1 : Int) (qz.2 : Int) by rw [hy1]; exact S.out.other5 (n_S_V.out))
              have V := Lib.hid (show MvAt y1 b_V tx.1.1 tx.1.2 wyx false wtx by rw [hy1]; exact V.out.put _ _ _ _ _)
              clear hy1
              have c_Q := Q.out
              have Q0 := c_Q.c0
              have Q1 := c_Q.c1
              have Qz := fun k => frozen_of_row _ b_Q k _ _ c_Q
              clear c_Q
              have c_R := R.out
              have R0 := c_R.c0
              have R1 := c_R.c1
              have Rz := fun k => frozen_of_row _ b_R k _ _ c_R
              clear c_R
              have c_S := S.out
              have S0 := c_S.c0
              have S1 := c_S.c1
              have Sz := fun k => frozen_of_row _ b_S k _ _ c_S
              clear c_S
              have c_V := V.out
              have V0 := c_V.c0
              have V1 := c_V.c1
              have V2 := c_V.c2
              have V3 := c_V.c3
              have V4 := c_V.c4
              have Vz := c_V.z
              clear c_V
              clear Q0 Q1 Qz R0 R1 Rz S0 S1 Sz V0 V1 V2 V3 V4 Vz
              have c_Q := Q.out
              have Q0 := c_Q.c0
              have Q1 := c_Q.c1
              have Qz := fun k => frozen_of_row _ b_Q k _ _ c_Q
              clear c_Q
              have c_R := R.out
              have R0 := c_R.c0
              have R1 := c_R.c1
              have Rz := fun k => frozen_of_row _ b_R k _ _ c_R
              clear c_R
              have c_S := S.out
              have S0 := c_S.c0
              have S1 := c_S.c1
              have Sz := fun k => frozen_of_row _ b_S k _ _ c_S
              clear c_S
              have c_V := V.out
              have V0 := c_V.c0
              have V1 := c_V.c1
              have V2 := c_V.c2
              have V3 := c_V.c3
              have V4 := c_V.c4
              have Vz := c_V.z
              clear c_V
              go_upto_region 16 with fail
              clear Q0 Q1 Qz R0 R1 Rz S0 S1 Sz V0 V1 V2 V3 V4 Vz
              obtain ⟨z1, hz1⟩ : ∃ z1, z1 = ((y1.setCell ⟨b_Q, 0, none⟩ (.int .i64 tx.1.1)).setCell ⟨b_Q, 1, none⟩ (.int .i64 tx.1.2)) := ⟨_, rfl⟩
              rw [← hz1]
              have E := Lib.hid (show Below x2.heap.size x2 z1 by rw [hz1]; exact (E.out.setCell (p := ⟨b_Q, 0, none⟩) g_Q_E.out _).setCell (p := ⟨b_Q, 1, none⟩) g_Q_E.out _)
              have Q := Lib.hid (show PosAt z1 b_Q tx.1.1 tx.1.2 by rw [hz1]; exact So.set2 Q.out)
              have R := Lib.hid (show PosAt z1 b_R (qy.1 : Int) (qy.2 : Int) by rw [hz1]; exact (So.set2_other (n_Q_R.out.symm)).trans R.out)
              have S := Lib.hid (show PosAt z1 b_S (qz.1 : Int) (qz.2 : Int) by rw [hz1]; exact (So.set2_other (n_Q_S.out.symm)).trans S.out)
              have V := Lib.hid (show MvAt z1 b_V tx.1.1 tx.1.2 wyx false wtx by rw [hz1]; exact (So.set2_other (n_Q_V.out.symm)).trans V.out)
              clear hz1
              have c_Q := Q.out
              have Q0 := c_Q.c0
              have Q1 := c_Q.c1
              have Qz := fun k => frozen_of_row _ b_Q k _ _ c_Q
              clear c_Q
              have c_R := R.out
              have R0 := c_R.c0
              have R1 := c_R.c1
              have Rz := fun k => frozen_of_row _ b_R k _ _ c_R
              clear c_R
              have c_S := S.out
              have S0 := c_S.c0
              have S1 := c_S.c1
              have Sz := fun k => frozen_of_row _ b_S k _ _ c_S
              clear c_S
              have c_V := V.out
              have V0 := c_V.c0
              have V1 := c_V.c1
              have V2 := c_V.c2
              have V3 := c_V.c3
              have V4 := c_V.c4
              have Vz := c_V.z
              clear c_V
              go_wp2
              go_roundw
              case rel => exact ⟨k + 1, tx.2, false, false, tx.1, qy, qz, by omega, rfl, rfl, rfl, by go_num, hstx.out, Stp.stay HR.out.2.1, Stp.stay HR.out.2.2.1, Q.out, R.out, S.out, E.out⟩
              case measure => simp [RowKit.intOf]; omega
            · have c_Q := Q.out
              have Q0 := c_Q.c0
              have Q1 := c_Q.c1
              have Qz := fun k => frozen_of_row _ b_Q k _ _ c_Q
              clear c_Q
              have c_R := R.out
              have R0 := c_R.c0
              have R1 := c_R.c1
              have Rz := fun k => frozen_of_row _ b_R k _ _ c_R
              clear c_R
              have c_S := S.out
              have S0 := c_S.c0
              have S1 := c_S.c1
              have Sz := fun k => frozen_of_row _ b_S k _ _ c_S
              clear c_S
              go_upto_region 13 with fail
              obtain ⟨y0, hy0⟩ : ∃ y0, y0 = wr.alloc (.cells #[.int .i64 0, .int .i64 0, .int .i64 0, .bool false, .int .i64 0] 40) := ⟨_, rfl⟩
              have hA : Below wr.heap.size wr y0 := by rw [hy0]; exact (Below.refl _ wr).alloc (Nat.le_refl _) _
              have hV := MvAt.new wr 0 0 0 0 false
              rw [← hy0] at hV ⊢
              have lt_Q := Q.out.lt
              have lt_R := R.out.lt
              have lt_S := S.out.lt
              have gg_E := E.out.size
              have E := Lib.hid (below_on E.out hA)
              have Q := Lib.hid (Q.out.below hA Q.out.lt)
              have R := Lib.hid (R.out.below hA R.out.lt)
              have S := Lib.hid (S.out.below hA S.out.lt)
              obtain ⟨b_V, hbf⟩ : ∃ b, b = wr.heap.size := ⟨_, rfl⟩
              rw [← hbf] at hV ⊢
              have n_Q_V := Lib.hid (show b_Q ≠ b_V by omega)
              clear lt_Q
              have n_R_V := Lib.hid (show b_R ≠ b_V by omega)
              clear lt_R
              have n_S_V := Lib.hid (show b_S ≠ b_V by omega)
              clear lt_S
              have g_V_E := Lib.hid (show x2.heap.size ≤ b_V by rw [hbf]; exact gg_E)
              clear gg_E
              have V := Lib.hid hV
              clear hV hA hy0 hbf
              clear Q0 Q1 Qz R0 R1 Rz S0 S1 Sz
              have c_Q := Q.out
              have Q0 := c_Q.c0
              have Q1 := c_Q.c1
              have Qz := fun k => frozen_of_row _ b_Q k _ _ c_Q
              clear c_Q
              have c_R := R.out
              have R0 := c_R.c0
              have R1 := c_R.c1
              have Rz := fun k => frozen_of_row _ b_R k _ _ c_R
              clear c_R
              have c_S := S.out
              have S0 := c_S.c0
              have S1 := c_S.c1
              have Sz := fun k => frozen_of_row _ b_S k _ _ c_S
              clear c_S
              have c_V := V.out
              have V0 := c_V.c0
              have V1 := c_V.c1
              have V2 := c_V.c2
              have V3 := c_V.c3
              have V4 := c_V.c4
              have Vz := c_V.z
              clear c_V
              obtain ⟨tx, ht⟩ : ∃ t : P2 × Bool, t = nthV (FN big ls qx) 1 := ⟨_, rfl⟩
              have hstx := Lib.hid (Stp.step (F := FN big ls) (fun pre rest x hh => aft_next (mks_sorted _) hh) HR.out.1 ht)
              have hpl := Stp.plc (ls := ls) HR.out.1 HPL.out (fun x hx => mem_sts (List.mem_filter.1 hx).1)
              obtain ⟨wyx, wtx, hf0⟩ := next_form (k := 1) (Nat.le_refl _) hpl ht
              have hf : nextR ls qx.1 qx.2 1 big false = ⟨tx.1.1, tx.1.2, wyx, false, wtx, tx.2⟩ := hf0
              have hc := next_any a n c' ls qx.1 qx.2 1 big false y0 (SrcV.below HS1.out (below_on DX.out E.out)) hs (by omega) (by omega)
              rw [hf] at hc
              dsimp only [Mv.R.v] at hc
              clear ht hpl hf0 hf
              go_wp2_with fail
              refine (hc).mono ?_
              rintro e v1 ⟨rfl, hb⟩
              clear Q0 Q1 Qz R0 R1 Rz S0 S1 Sz V0 V1 V2 V3 V4 Vz
              have E := Lib.hid (below_on E.out hb)
              have Q := Lib.hid (Q.out.below hb Q.out.lt)
              have R := Lib.hid (R.out.below hb R.out.lt)
              have S := Lib.hid (S.out.below hb S.out.lt)
              have V := Lib.hid (V.out.below hb V.out.lt)
              clear hb hc
              have c_Q := Q.out
              have Q0 := c_Q.c0
              have Q1 := c_Q.c1
              have Qz := fun k => frozen_of_row _ b_Q k _ _ c_Q
              clear c_Q
              have c_R := R.out
              have R0 := c_R.c0
              have R1 := c_R.c1
              have Rz := fun k => frozen_of_row _ b_R k _ _ c_R
              clear c_R
              have c_S := S.out
              have S0 := c_S.c0
              have S1 := c_S.c1
              have Sz := fun k => frozen_of_row _ b_S k _ _ c_S
              clear c_S
              have c_V := V.out
              have V0 := c_V.c0
              have V1 := c_V.c1
              have V2 := c_V.c2
              have V3 := c_V.c3
              have V4 := c_V.c4
              have Vz := c_V.z
              clear c_V
              go_upto_region 15 with fail
              clear Q0 Q1 Qz R0 R1 Rz S0 S1 Sz V0 V1 V2 V3 V4 Vz
              obtain ⟨y1, hy1⟩ : ∃ y1, y1 = put5 v1 b_V tx.1.1 tx.1.2 wyx false wtx := ⟨_, rfl⟩
              have ey1 := hy1.symm
              unfold put5 at ey1
              rw [ey1]
              clear ey1
              have E := Lib.hid (show Below x2.heap.size x2 y1 by rw [hy1]; exact put5_below E.out g_V_E.out _ _ _ _ _)
              have Q := Lib.hid (show PosAt y1 b_Q (qx.1 : Int) (qx.2 : Int) by rw [hy1]; exact Q.out.other5 (n_Q_V.out))
              have R := Lib.hid (show PosAt y1 b_R (qy.1 : Int) (qy.2 : Int) by rw [hy1]; exact R.out.other5 (n_R_V.out))
              have S := Lib.hid (show PosAt y1 b_S (qz.1 : Int) (qz.2 : Int) by rw [hy1]; exact S.out.other5 (n_S_V.out))
              have V := Lib.hid (show MvAt y1 b_V tx.1.1 tx.1.2 wyx false wtx by rw [hy1]; exact V.out.put _ _ _ _ _)
              clear hy1
              have c_Q := Q.out
              have Q0 := c_Q.c0
              have Q1 := c_Q.c1
              have Qz := fun k => frozen_of_row _ b_Q k _ _ c_Q
              clear c_Q
              have c_R := R.out
              have R0 := c_R.c0
              have R1 := c_R.c1
              have Rz := fun k => frozen_of_row _ b_R k _ _ c_R
              clear c_R
              have c_S := S.out
              have S0 := c_S.c0
              have S1 := c_S.c1
              have Sz := fun k => frozen_of_row _ b_S k _ _ c_S
              clear c_S
              have c_V := V.out
              have V0 := c_V.c0
              have V1 := c_V.c1
              have V2 := c_V.c2
              have V3 := c_V.c3
              have V4 := c_V.c4
              have Vz := c_V.z
              clear c_V
              clear Q0 Q1 Qz R0 R1 Rz S0 S1 Sz V0 V1 V2 V3 V4 Vz
              have c_Q := Q.out
              have Q0 := c_Q.c0
              have Q1 := c_Q.c1
              have Qz := fun k => frozen_of_row _ b_Q k _ _ c_Q
              clear c_Q
              have c_R := R.out
              have R0 := c_R.c0
              have R1 := c_R.c1
              have Rz := fun k => frozen_of_row _ b_R k _ _ c_R
              clear c_R
              have c_S := S.out
              have S0 := c_S.c0
              have S1 := c_S.c1
              have Sz := fun k => frozen_of_row _ b_S k _ _ c_S
              clear c_S
              have c_V := V.out
              have V0 := c_V.c0
              have V1 := c_V.c1
              have V2 := c_V.c2
              have V3 := c_V.c3
              have V4 := c_V.c4
              have Vz := c_V.z
              clear c_V
              go_upto_region 16 with fail
              clear Q0 Q1 Qz R0 R1 Rz S0 S1 Sz V0 V1 V2 V3 V4 Vz
              obtain ⟨z1, hz1⟩ : ∃ z1, z1 = ((y1.setCell ⟨b_Q, 0, none⟩ (.int .i64 tx.1.1)).setCell ⟨b_Q, 1, none⟩ (.int .i64 tx.1.2)) := ⟨_, rfl⟩
              rw [← hz1]
              have E := Lib.hid (show Below x2.heap.size x2 z1 by rw [hz1]; exact (E.out.setCell (p := ⟨b_Q, 0, none⟩) g_Q_E.out _).setCell (p := ⟨b_Q, 1, none⟩) g_Q_E.out _)
              have Q := Lib.hid (show PosAt z1 b_Q tx.1.1 tx.1.2 by rw [hz1]; exact So.set2 Q.out)
              have R := Lib.hid (show PosAt z1 b_R (qy.1 : Int) (qy.2 : Int) by rw [hz1]; exact (So.set2_other (n_Q_R.out.symm)).trans R.out)
              have S := Lib.hid (show PosAt z1 b_S (qz.1 : Int) (qz.2 : Int) by rw [hz1]; exact (So.set2_other (n_Q_S.out.symm)).trans S.out)
              have V := Lib.hid (show MvAt z1 b_V tx.1.1 tx.1.2 wyx false wtx by rw [hz1]; exact (So.set2_other (n_Q_V.out.symm)).trans V.out)
              clear hz1
              have c_Q := Q.out
              have Q0 := c_Q.c0
              have Q1 := c_Q.c1
              have Qz := fun k => frozen_of_row _ b_Q k _ _ c_Q
              clear c_Q
              have c_R := R.out
              have R0 := c_R.c0
              have R1 := c_R.c1
              have Rz := fun k => frozen_of_row _ b_R k _ _ c_R
              clear c_R
              have c_S := S.out
              have S0 := c_S.c0
              have S1 := c_S.c1
              have Sz := fun k => frozen_of_row _ b_S k _ _ c_S
              clear c_S
              have c_V := V.out
              have V0 := c_V.c0
              have V1 := c_V.c1
              have V2 := c_V.c2
              have V3 := c_V.c3
              have V4 := c_V.c4
              have Vz := c_V.z
              clear c_V
              obtain ⟨tz, ht⟩ : ∃ t : P2 × Bool, t = nthV (FT big ls qz) 1 := ⟨_, rfl⟩
              have hstz := Lib.hid (Stp.step (F := FT big ls) (fun pre rest x hh => aft_next (mks_sorted _) hh) HR.out.2.2.1 ht)
              have hpl := Stp.plc (ls := ls) HR.out.2.2.1 HPL.out (fun x hx => mem_eds (List.mem_filter.1 hx).1)
              obtain ⟨wyz, wtz, hf0⟩ := tail_form (k := 1) (Nat.le_refl _) hpl ht
              have hf : tailR ls qz.1 qz.2 1 big false = ⟨tz.1.1, tz.1.2, wyz, false, wtz, tz.2⟩ := hf0
              have hc := tail_any a n c' ls qz.1 qz.2 1 big false z1 (SrcV.below HS1.out (below_on DX.out E.out)) hs (by omega) (by omega)
              rw [hf] at hc
              dsimp only [Mv.R.v] at hc
              clear ht hpl hf0 hf
              go_wp2_with fail
              refine (hc).mono ?_
              rintro e v3 ⟨rfl, hb⟩
              clear Q0 Q1 Qz R0 R1 Rz S0 S1 Sz V0 V1 V2 V3 V4 Vz
              have E := Lib.hid (below_on E.out hb)
              have Q := Lib.hid (Q.out.below hb Q.out.lt)
              have R := Lib.hid (R.out.below hb R.out.lt)
              have S := Lib.hid (S.out.below hb S.out.lt)
              have V := Lib.hid (V.out.below hb V.out.lt)
              clear hb hc
              have c_Q := Q.out
              have Q0 := c_Q.c0
              have Q1 := c_Q.c1
              have Qz := fun k => frozen_of_row _ b_Q k _ _ c_Q
              clear c_Q
              have c_R := R.out
              have R0 := c_R.c0
              have R1 := c_R.c1
              have Rz := fun k => frozen_of_row _ b_R k _ _ c_R
              clear c_R
              have c_S := S.out
              have S0 := c_S.c0
              have S1 := c_S.c1
              have Sz := fun k => frozen_of_row _ b_S k _ _ c_S
              clear c_S
              have c_V := V.out
              have V0 := c_V.c0
              have V1 := c_V.c1
              have V2 := c_V.c2
              have V3 := c_V.c3
              have V4 := c_V.c4
              have Vz := c_V.z
              clear c_V
              go_upto_region 21 with fail
              clear Q0 Q1 Qz R0 R1 Rz S0 S1 Sz V0 V1 V2 V3 V4 Vz
              obtain ⟨y3, hy3⟩ : ∃ y3, y3 = put5 v3 b_V tz.1.1 tz.1.2 wyz false wtz := ⟨_, rfl⟩
              have ey3 := hy3.symm
              unfold put5 at ey3
              rw [ey3]
              clear ey3
              have E := Lib.hid (show Below x2.heap.size x2 y3 by rw [hy3]; exact put5_below E.out g_V_E.out _ _ _ _ _)
              have Q := Lib.hid (show PosAt y3 b_Q tx.1.1 tx.1.2 by rw [hy3]; exact Q.out.other5 (n_Q_V.out))
              have R := Lib.hid (show PosAt y3 b_R (qy.1 : Int) (qy.2 : Int) by rw [hy3]; exact R.out.other5 (n_R_V.out))
              have S := Lib.hid (show PosAt y3 b_S (qz.1 : Int) (qz.2 : Int) by rw [hy3]; exact S.out.other5 (n_S_V.out))
              have V := Lib.hid (show MvAt y3 b_V tz.1.1 tz.1.2 wyz false wtz by rw [hy3]; exact V.out.put _ _ _ _ _)
              clear hy3
              have c_Q := Q.out
              have Q0 := c_Q.c0
              have Q1 := c_Q.c1
              have Qz := fun k => frozen_of_row _ b_Q k _ _ c_Q
              clear c_Q
              have c_R := R.out
              have R0 := c_R.c0
              have R1 := c_R.c1
              have Rz := fun k => frozen_of_row _ b_R k _ _ c_R
              clear c_R
              have c_S := S.out
              have S0 := c_S.c0
              have S1 := c_S.c1
              have Sz := fun k => frozen_of_row _ b_S k _ _ c_S
              clear c_S
              have c_V := V.out
              have V0 := c_V.c0
              have V1 := c_V.c1
              have V2 := c_V.c2
              have V3 := c_V.c3
              have V4 := c_V.c4
              have Vz := c_V.z
              clear c_V
              clear Q0 Q1 Qz R0 R1 Rz S0 S1 Sz V0 V1 V2 V3 V4 Vz
              have c_Q := Q.out
              have Q0 := c_Q.c0
              have Q1 := c_Q.c1
              have Qz := fun k => frozen_of_row _ b_Q k _ _ c_Q
              clear c_Q
              have c_R := R.out
              have R0 := c_R.c0
              have R1 := c_R.c1
              have Rz := fun k => frozen_of_row _ b_R k _ _ c_R
              clear c_R
              have c_S := S.out
              have S0 := c_S.c0
              have S1 := c_S.c1
              have Sz := fun k => frozen_of_row _ b_S k _ _ c_S
              clear c_S
              have c_V := V.out
              have V0 := c_V.c0
              have V1 := c_V.c1
              have V2 := c_V.c2
              have V3 := c_V.c3
              have V4 := c_V.c4
              have Vz := c_V.z
              clear c_V
              go_upto_region 11 with fail
              clear Q0 Q1 Qz R0 R1 Rz S0 S1 Sz V0 V1 V2 V3 V4 Vz
              obtain ⟨z3, hz3⟩ : ∃ z3, z3 = ((y3.setCell ⟨b_S, 0, none⟩ (.int .i64 tz.1.1)).setCell ⟨b_S, 1, none⟩ (.int .i64 tz.1.2)) := ⟨_, rfl⟩
              rw [← hz3]
              have E := Lib.hid (show Below x2.heap.size x2 z3 by rw [hz3]; exact (E.out.setCell (p := ⟨b_S, 0, none⟩) g_S_E.out _).setCell (p := ⟨b_S, 1, none⟩) g_S_E.out _)
              have Q := Lib.hid (show PosAt z3 b_Q tx.1.1 tx.1.2 by rw [hz3]; exact (So.set2_other (n_Q_S.out)).trans Q.out)
              have R := Lib.hid (show PosAt z3 b_R (qy.1 : Int) (qy.2 : Int) by rw [hz3]; exact (So.set2_other (n_R_S.out)).trans R.out)
              have S := Lib.hid (show PosAt z3 b_S tz.1.1 tz.1.2 by rw [hz3]; exact So.set2 S.out)
              have V := Lib.hid (show MvAt z3 b_V tz.1.1 tz.1.2 wyz false wtz by rw [hz3]; exact (So.set2_other (n_S_V.out.symm)).trans V.out)
              clear hz3
              have c_Q := Q.out
              have Q0 := c_Q.c0
              have Q1 := c_Q.c1
              have Qz := fun k => frozen_of_row _ b_Q k _ _ c_Q
              clear c_Q
              have c_R := R.out
              have R0 := c_R.c0
              have R1 := c_R.c1
              have Rz := fun k => frozen_of_row _ b_R k _ _ c_R
              clear c_R
              have c_S := S.out
              have S0 := c_S.c0
              have S1 := c_S.c1
              have Sz := fun k => frozen_of_row _ b_S k _ _ c_S
              clear c_S
              have c_V := V.out
              have V0 := c_V.c0
              have V1 := c_V.c1
              have V2 := c_V.c2
              have V3 := c_V.c3
              have V4 := c_V.c4
              have Vz := c_V.z
              clear c_V
              go_wp2
              go_roundw
              case rel => exact ⟨k + 1, tx.2, false, tz.2, tx.1, qy, tz.1, by omega, rfl, rfl, rfl, by go_num, hstx.out, Stp.stay HR.out.2.1, hstz.out, Q.out, R.out, S.out, E.out⟩
              case measure => simp [RowKit.intOf]; omega
          · cases oz
            · have c_Q := Q.out
              have Q0 := c_Q.c0
              have Q1 := c_Q.c1
              have Qz := fun k => frozen_of_row _ b_Q k _ _ c_Q
              clear c_Q
              have c_R := R.out
              have R0 := c_R.c0
              have R1 := c_R.c1
              have Rz := fun k => frozen_of_row _ b_R k _ _ c_R
              clear c_R
              have c_S := S.out
              have S0 := c_S.c0
              have S1 := c_S.c1
              have Sz := fun k => frozen_of_row _ b_S k _ _ c_S
              clear c_S
              go_upto_region 13 with fail
              obtain ⟨y0, hy0⟩ : ∃ y0, y0 = wr.alloc (.cells #[.int .i64 0, .int .i64 0, .int .i64 0, .bool false, .int .i64 0] 40) := ⟨_, rfl⟩
              have hA : Below wr.heap.size wr y0 := by rw [hy0]; exact (Below.refl _ wr).alloc (Nat.le_refl _) _
              have hV := MvAt.new wr 0 0 0 0 false
              rw [← hy0] at hV ⊢
              have lt_Q := Q.out.lt
              have lt_R := R.out.lt
              have lt_S := S.out.lt
              have gg_E := E.out.size
              have E := Lib.hid (below_on E.out hA)
              have Q := Lib.hid (Q.out.below hA Q.out.lt)
              have R := Lib.hid (R.out.below hA R.out.lt)
              have S := Lib.hid (S.out.below hA S.out.lt)
              obtain ⟨b_V, hbf⟩ : ∃ b, b = wr.heap.size := ⟨_, rfl⟩
              rw [← hbf] at hV ⊢
              have n_Q_V := Lib.hid (show b_Q ≠ b_V by omega)
              clear lt_Q
              have n_R_V := Lib.hid (show b_R ≠ b_V by omega)
              clear lt_R
              have n_S_V := Lib.hid (show b_S ≠ b_V by omega)
              clear lt_S
              have g_V_E := Lib.hid (show x2.heap.size ≤ b_V by rw [hbf]; exact gg_E)
              clear gg_E
              have V := Lib.hid hV
              clear hV hA hy0 hbf
              clear Q0 Q1 Qz R0 R1 Rz S0 S1 Sz
              have c_Q := Q.out
              have Q0 := c_Q.c0
              have Q1 := c_Q.c1
              have Qz := fun k => frozen_of_row _ b_Q k _ _ c_Q
              clear c_Q
              have c_R := R.out
              have R0 := c_R.c0
              have R1 := c_R.c1
              have Rz := fun k => frozen_of_row _ b_R k _ _ c_R
              clear c_R
              have c_S := S.out
              have S0 := c_S.c0
              have S1 := c_S.c1
              have Sz := fun k => frozen_of_row _ b_S k _ _ c_S
              clear c_S
              have c_V := V.out
              have V0 := c_V.c0
              have V1 := c_V.c1
              have V2 := c_V.c2
              have V3 := c_V.c3
              have V4 := c_V.c4
              have Vz := c_V.z
              clear c_V
              obtain ⟨tx, ht⟩ : ∃ t : P2 × Bool, t = nthV (FN big ls qx) 1 := ⟨_, rfl⟩
              have hstx := Lib.hid (Stp.step (F := FN big ls) (fun pre rest x hh => aft_next (mks_sorted _) hh) HR.out.1 ht)
              have hpl := Stp.plc (ls := ls) HR.out.1 HPL.out (fun x hx => mem_sts (List.mem_filter.1 hx).1)
              obtain ⟨wyx, wtx, hf0⟩ := next_form (k := 1) (Nat.le_refl _) hpl ht
              have hf : nextR ls qx.1 qx.2 1 big false = ⟨tx.1.1, tx.1.2, wyx, false, wtx, tx.2⟩ := hf0
              have hc := next_any a n c' ls qx.1 qx.2 1 big false y0 (SrcV.below HS1.out (below_on DX.out E.out)) hs (by omega) (by omega)
              rw [hf] at hc
              dsimp only [Mv.R.v] at hc
              clear ht hpl hf0 hf
              go_wp2_with fail
              refine (hc).mono ?_
              rintro e v1 ⟨rfl, hb⟩
              clear Q0 Q1 Qz R0 R1 Rz S0 S1 Sz V0 V1 V2 V3 V4 Vz
              have E := Lib.hid (below_on E.out hb)
              have Q := Lib.hid (Q.out.below hb Q.out.lt)
              have R := Lib.hid (R.out.below hb R.out.lt)
              have S := Lib.hid (S.out.below hb S.out.lt)
              have V := Lib.hid (V.out.below hb V.out.lt)
              clear hb hc
              have c_Q := Q.out
              have Q0 := c_Q.c0
              have Q1 := c_Q.c1
              have Qz := fun k => frozen_of_row _ b_Q k _ _ c_Q
              clear c_Q
              have c_R := R.out
              have R0 := c_R.c0
              have R1 := c_R.c1
              have Rz := fun k => frozen_of_row _ b_R k _ _ c_R
              clear c_R
              have c_S := S.out
              have S0 := c_S.c0
              have S1 := c_S.c1
              have Sz := fun k => frozen_of_row _ b_S k _ _ c_S
              clear c_S
              have c_V := V.out
              have V0 := c_V.c0
              have V1 := c_V.c1
              have V2 := c_V.c2
              have V3 := c_V.c3
              have V4 := c_V.c4
              have Vz := c_V.z
              clear c_V
              go_upto_region 15 with fail
              clear Q0 Q1 Qz R0 R1 Rz S0 S1 Sz V0 V1 V2 V3 V4 Vz
              obtain ⟨y1, hy1⟩ : ∃ y1, y1 = put5 v1 b_V tx.1.1 tx.1.2 wyx false wtx := ⟨_, rfl⟩
              have ey1 := hy1.symm
              unfold put5 at ey1
              rw [ey1]
              clear ey1
              have E := Lib.hid (show Below x2.heap.size x2 y1 by rw [hy1]; exact put5_below E.out g_V_E.out _ _ _ _ _)
              have Q := Lib.hid (show PosAt y1 b_Q (qx.1 : Int) (qx.2 : Int) by rw [hy1]; exact Q.out.other5 (n_Q_V.out))
              have R := Lib.hid (show PosAt y1 b_R (qy.1 : Int) (qy.2 : Int) by rw [hy1]; exact R.out.other5 (n_R_V.out))
              have S := Lib.hid (show PosAt y1 b_S (qz.1 : Int) (qz.2 : Int) by rw [hy1]; exact S.out.other5 (n_S_V.out))
              have V := Lib.hid (show MvAt y1 b_V tx.1.1 tx.1.2 wyx false wtx by rw [hy1]; exact V.out.put _ _ _ _ _)
              clear hy1
              have c_Q := Q.out
              have Q0 := c_Q.c0
              have Q1 := c_Q.c1
              have Qz := fun k => frozen_of_row _ b_Q k _ _ c_Q
              clear c_Q
              have c_R := R.out
              have R0 := c_R.c0
              have R1 := c_R.c1
              have Rz := fun k => frozen_of_row _ b_R k _ _ c_R
              clear c_R
              have c_S := S.out
              have S0 := c_S.c0
              have S1 := c_S.c1
              have Sz := fun k => frozen_of_row _ b_S k _ _ c_S
              clear c_S
              have c_V := V.out
              have V0 := c_V.c0
              have V1 := c_V.c1
              have V2 := c_V.c2
              have V3 := c_V.c3
              have V4 := c_V.c4
              have Vz := c_V.z
              clear c_V
              clear Q0 Q1 Qz R0 R1 Rz S0 S1 Sz V0 V1 V2 V3 V4 Vz
              have c_Q := Q.out
              have Q0 := c_Q.c0
              have Q1 := c_Q.c1
              have Qz := fun k => frozen_of_row _ b_Q k _ _ c_Q
              clear c_Q
              have c_R := R.out
              have R0 := c_R.c0
              have R1 := c_R.c1
              have Rz := fun k => frozen_of_row _ b_R k _ _ c_R
              clear c_R
              have c_S := S.out
              have S0 := c_S.c0
              have S1 := c_S.c1
              have Sz := fun k => frozen_of_row _ b_S k _ _ c_S
              clear c_S
              have c_V := V.out
              have V0 := c_V.c0
              have V1 := c_V.c1
              have V2 := c_V.c2
              have V3 := c_V.c3
              have V4 := c_V.c4
              have Vz := c_V.z
              clear c_V
              go_upto_region 16 with fail
              clear Q0 Q1 Qz R0 R1 Rz S0 S1 Sz V0 V1 V2 V3 V4 Vz
              obtain ⟨z1, hz1⟩ : ∃ z1, z1 = ((y1.setCell ⟨b_Q, 0, none⟩ (.int .i64 tx.1.1)).setCell ⟨b_Q, 1, none⟩ (.int .i64 tx.1.2)) := ⟨_, rfl⟩
              rw [← hz1]
              have E := Lib.hid (show Below x2.heap.size x2 z1 by rw [hz1]; exact (E.out.setCell (p := ⟨b_Q, 0, none⟩) g_Q_E.out _).setCell (p := ⟨b_Q, 1, none⟩) g_Q_E.out _)
              have Q := Lib.hid (show PosAt z1 b_Q tx.1.1 tx.1.2 by rw [hz1]; exact So.set2 Q.out)
              have R := Lib.hid (show PosAt z1 b_R (qy.1 : Int) (qy.2 : Int) by rw [hz1]; exact (So.set2_other (n_Q_R.out.symm)).trans R.out)
              have S := Lib.hid (show PosAt z1 b_S (qz.1 : Int) (qz.2 : Int) by rw [hz1]; exact (So.set2_other (n_Q_S.out.symm)).trans S.out)
              have V := Lib.hid (show MvAt z1 b_V tx.1.1 tx.1.2 wyx false wtx by rw [hz1]; exact (So.set2_other (n_Q_V.out.symm)).trans V.out)
              clear hz1
              have c_Q := Q.out
              have Q0 := c_Q.c0
              have Q1 := c_Q.c1
              have Qz := fun k => frozen_of_row _ b_Q k _ _ c_Q
              clear c_Q
              have c_R := R.out
              have R0 := c_R.c0
              have R1 := c_R.c1
              have Rz := fun k => frozen_of_row _ b_R k _ _ c_R
              clear c_R
              have c_S := S.out
              have S0 := c_S.c0
              have S1 := c_S.c1
              have Sz := fun k => frozen_of_row _ b_S k _ _ c_S
              clear c_S
              have c_V := V.out
              have V0 := c_V.c0
              have V1 := c_V.c1
              have V2 := c_V.c2
              have V3 := c_V.c3
              have V4 := c_V.c4
              have Vz := c_V.z
              clear c_V
              obtain ⟨ty, ht⟩ : ∃ t : P2 × Bool, t = nthV (FB big ls qy) 1 := ⟨_, rfl⟩
              have hsty := Lib.hid (Stp.step (F := FB big ls) (fun pre rest x hh => bef_next (mks_sorted _) hh) HR.out.2.1 ht)
              have hpl := Stp.plc (ls := ls) HR.out.2.1 HPL.out (fun x hx => mem_sts (List.mem_filter.1 (List.mem_reverse.1 hx)).1)
              obtain ⟨wyy, wty, hf0⟩ := back_form (k := 1) (Nat.le_refl _) hpl ht
              have hf : backR ls qy.1 qy.2 1 big = ⟨ty.1.1, ty.1.2, wyy, false, wty, ty.2⟩ := hf0
              have hc := back_any a n c' ls qy.1 qy.2 1 big z1 (SrcV.below HS1.out (below_on DX.out E.out)) hs (by omega) (by omega)
              rw [hf] at hc
              dsimp only [Mv.R.v] at hc
              clear ht hpl hf0 hf
              go_wp2_with fail
              refine (hc).mono ?_
              rintro e v2 ⟨rfl, hb⟩
              clear Q0 Q1 Qz R0 R1 Rz S0 S1 Sz V0 V1 V2 V3 V4 Vz
              have E := Lib.hid (below_on E.out hb)
              have Q := Lib.hid (Q.out.below hb Q.out.lt)
              have R := Lib.hid (R.out.below hb R.out.lt)
              have S := Lib.hid (S.out.below hb S.out.lt)
              have V := Lib.hid (V.out.below hb V.out.lt)
              clear hb hc
              have c_Q := Q.out
              have Q0 := c_Q.c0
              have Q1 := c_Q.c1
              have Qz := fun k => frozen_of_row _ b_Q k _ _ c_Q
              clear c_Q
              have c_R := R.out
              have R0 := c_R.c0
              have R1 := c_R.c1
              have Rz := fun k => frozen_of_row _ b_R k _ _ c_R
              clear c_R
              have c_S := S.out
              have S0 := c_S.c0
              have S1 := c_S.c1
              have Sz := fun k => frozen_of_row _ b_S k _ _ c_S
              clear c_S
              have c_V := V.out
              have V0 := c_V.c0
              have V1 := c_V.c1
              have V2 := c_V.c2
              have V3 := c_V.c3
              have V4 := c_V.c4
              have Vz := c_V.z
              clear c_V
              go_upto_region 18 with fail
              clear Q0 Q1 Qz R0 R1 Rz S0 S1 Sz V0 V1 V2 V3 V4 Vz
              obtain ⟨y2, hy2⟩ : ∃ y2, y2 = put5 v2 b_V ty.1.1 ty.1.2 wyy false wty := ⟨_, rfl⟩
              have ey2 := hy2.symm
              unfold put5 at ey2
              rw [ey2]
              clear ey2
              have E := Lib.hid (show Below x2.heap.size x2 y2 by rw [hy2]; exact put5_below E.out g_V_E.out _ _ _ _ _)
              have Q := Lib.hid (show PosAt y2 b_Q tx.1.1 tx.1.2 by rw [hy2]; exact Q.out.other5 (n_Q_V.out))
              have R := Lib.hid (show PosAt y2 b_R (qy.1 : Int) (qy.2 : Int) by rw [hy2]; exact R.out.other5 (n_R_V.out))
              have S := Lib.hid (show PosAt y2 b_S (qz.1 : Int) (qz.2 : Int) by rw [hy2]; exact S.out.other5 (n_S_V.out))
              have V := Lib.hid (show MvAt y2 b_V ty.1.1 ty.1.2 wyy false wty by rw [hy2]; exact V.out.put _ _ _ _ _)
              clear hy2
              have c_Q := Q.out
              have Q0 := c_Q.c0
              have Q1 := c_Q.c1
              have Qz := fun k => frozen_of_row _ b_Q k _ _ c_Q
              clear c_Q
              have c_R := R.out
              have R0 := c_R.c0
              have R1 := c_R.c1
              have Rz := fun k => frozen_of_row _ b_R k _ _ c_R
              clear c_R
              have c_S := S.out
              have S0 := c_S.c0
              have S1 := c_S.c1
              have Sz := fun k => frozen_of_row _ b_S k _ _ c_S
              clear c_S
              have c_V := V.out
              have V0 := c_V.c0
              have V1 := c_V.c1
              have V2 := c_V.c2
              have V3 := c_V.c3
              have V4 := c_V.c4
              have Vz := c_V.z
              clear c_V
              clear Q0 Q1 Qz R0 R1 Rz S0 S1 Sz V0 V1 V2 V3 V4 Vz
              have c_Q := Q.out
              have Q0 := c_Q.c0
              have Q1 := c_Q.c1
              have Qz := fun k => frozen_of_row _ b_Q k _ _ c_Q
              clear c_Q
              have c_R := R.out
              have R0 := c_R.c0
              have R1 := c_R.c1
              have Rz := fun k => frozen_of_row _ b_R k _ _ c_R
              clear c_R
              have c_S := S.out
              have S0 := c_S.c0
              have S1 := c_S.c1
              have Sz := fun k => frozen_of_row _ b_S k _ _ c_S
              clear c_S
              have c_V := V.out
              have V0 := c_V.c0
              have V1 := c_V.c1
              have V2 := c_V.c2
              have V3 := c_V.c3
              have V4 := c_V.c4
              have Vz := c_V.z
              clear c_V
              go_upto_region 19 with fail
              clear Q0 Q1 Qz R0 R1 Rz S0 S1 Sz V0 V1 V2 V3 V4 Vz
              obtain ⟨z2, hz2⟩ : ∃ z2, z2 = ((y2.setCell ⟨b_R, 0, none⟩ (.int .i64 ty.1.1)).setCell ⟨b_R, 1, none⟩ (.int .i64 ty.1.2)) := ⟨_, rfl⟩
              rw [← hz2]
              have E := Lib.hid (show Below x2.heap.size x2 z2 by rw [hz2]; exact (E.out.setCell (p := ⟨b_R, 0, none⟩) g_R_E.out _).setCell (p := ⟨b_R, 1, none⟩) g_R_E.out _)
              have Q := Lib.hid (show PosAt z2 b_Q tx.1.1 tx.1.2 by rw [hz2]; exact (So.set2_other (n_Q_R.out)).trans Q.out)
              have R := Lib.hid (show PosAt z2 b_R ty.1.1 ty.1.2 by rw [hz2]; exact So.set2 R.out)
              have S := Lib.hid (show PosAt z2 b_S (qz.1 : Int) (qz.2 : Int) by rw [hz2]; exact (So.set2_other (n_R_S.out.symm)).trans S.out)
              have V := Lib.hid (show MvAt z2 b_V ty.1.1 ty.1.2 wyy false wty by rw [hz2]; exact (So.set2_other (n_R_V.out.symm)).trans V.out)
              clear hz2
              have c_Q := Q.out
              have Q0 := c_Q.c0
              have Q1 := c_Q.c1
              have Qz := fun k => frozen_of_row _ b_Q k _ _ c_Q
              clear c_Q
              have c_R := R.out
              have R0 := c_R.c0
              have R1 := c_R.c1
              have Rz := fun k => frozen_of_row _ b_R k _ _ c_R
              clear c_R
              have c_S := S.out
              have S0 := c_S.c0
              have S1 := c_S.c1
              have Sz := fun k => frozen_of_row _ b_S k _ _ c_S
              clear c_S
              have c_V := V.out
              have V0 := c_V.c0
              have V1 := c_V.c1
              have V2 := c_V.c2
              have V3 := c_V.c3
              have V4 := c_V.c4
              have Vz := c_V.z
              clear c_V
              go_wp2
              go_roundw
              case rel => exact ⟨k + 1, tx.2, ty.2, false, tx.1, ty.1, qz, by omega, rfl, rfl, rfl, by go_num, hstx.out, hsty.out, Stp.stay HR.out.2.2.1, Q.out, R.out, S.out, E.out⟩
              case measure => simp [RowKit.intOf]; omega
            · have c_Q := Q.out
              have Q0 := c_Q.c0
              have Q1 := c_Q.c1
              have Qz := fun k => frozen_of_row _ b_Q k _ _ c_Q
              clear c_Q
              have c_R := R.out
              have R0 := c_R.c0
              have R1 := c_R.c1
              have Rz := fun k => frozen_of_row _ b_R k _ _ c_R
              clear c_R
              have c_S := S.out
              have S0 := c_S.c0
              have S1 := c_S.c1
              have Sz := fun k => frozen_of_row _ b_S k _ _ c_S
              clear c_S
              go_upto_region 13 with fail
              obtain ⟨y0, hy0⟩ : ∃ y0, y0 = wr.alloc (.cells #[.int .i64 0, .int .i64 0, .int .i64 0, .bool false, .int .i64 0] 40) := ⟨_, rfl⟩
              have hA : Below wr.heap.size wr y0 := by rw [hy0]; exact (Below.refl _ wr).alloc (Nat.le_refl _) _
              have hV := MvAt.new wr 0 0 0 0 false
              rw [← hy0] at hV ⊢
              have lt_Q := Q.out.lt
              have lt_R := R.out.lt
              have lt_S := S.out.lt
              have gg_E := E.out.size
              have E := Lib.hid (below_on E.out hA)
              have Q := Lib.hid (Q.out.below hA Q.out.lt)
              have R := Lib.hid (R.out.below hA R.out.lt)
              have S := Lib.hid (S.out.below hA S.out.lt)
              obtain ⟨b_V, hbf⟩ : ∃ b, b = wr.heap.size := ⟨_, rfl⟩
              rw [← hbf] at hV ⊢
              have n_Q_V := Lib.hid (show b_Q ≠ b_V by omega)
              clear lt_Q
              have n_R_V := Lib.hid (show b_R ≠ b_V by omega)
              clear lt_R
              have n_S_V := Lib.hid (show b_S ≠ b_V by omega)
              clear lt_S
              have g_V_E := Lib.hid (show x2.heap.size ≤ b_V by rw [hbf]; exact gg_E)
              clear gg_E
              have V := Lib.hid hV
              clear hV hA hy0 hbf
              clear Q0 Q1 Qz R0 R1 Rz S0 S1 Sz
              have c_Q := Q.out
              have Q0 := c_Q.c0
              have Q1 := c_Q.c1
              have Qz := fun k => frozen_of_row _ b_Q k _ _ c_Q
              clear c_Q
              have c_R := R.out
              have R0 := c_R.c0
              have R1 := c_R.c1
              have Rz := fun k => frozen_of_row _ b_R k _ _ c_R
              clear c_R
              have c_S := S.out
              have S0 := c_S.c0
              have S1 := c_S.c1
              have Sz := fun k => frozen_of_row _ b_S k _ _ c_S
              clear c_S
              have c_V := V.out
              have V0 := c_V.c0
              have V1 := c_V.c1
              have V2 := c_V.c2
              have V3 := c_V.c3
              have V4 := c_V.c4
              have Vz := c_V.z
              clear c_V
              obtain ⟨tx, ht⟩ : ∃ t : P2 × Bool, t = nthV (FN big ls qx) 1 := ⟨_, rfl⟩
              have hstx := Lib.hid (Stp.step (F := FN big ls) (fun pre rest x hh => aft_next (mks_sorted _) hh) HR.out.1 ht)
              have hpl := Stp.plc (ls := ls) HR.out.1 HPL.out (fun x hx => mem_sts (List.mem_filter.1 hx).1)
              obtain ⟨wyx, wtx, hf0⟩ := next_form (k := 1) (Nat.le_refl _) hpl ht
              have hf : nextR ls qx.1 qx.2 1 big false = ⟨tx.1.1, tx.1.2, wyx, false, wtx, tx.2⟩ := hf0
              have hc := next_any a n c' ls qx.1 qx.2 1 big false y0 (SrcV.below HS1.out (below_on DX.out E.out)) hs (by omega) (by omega)
              rw [hf] at hc
              dsimp only [Mv.R.v] at hc
              clear ht hpl hf0 hf
              go_wp2_with fail
              refine (hc).mono ?_
              rintro e v1 ⟨rfl, hb⟩
              clear Q0 Q1 Qz R0 R1 Rz S0 S1 Sz V0 V1 V2 V3 V4 Vz
              have E := Lib.hid (below_on E.out hb)
              have Q := Lib.hid (Q.out.below hb Q.out.lt)
              have R := Lib.hid (R.out.below hb R.out.lt)
              have S := Lib.hid (S.out.below hb S.out.lt)
              have V := Lib.hid (V.out.below hb V.out.lt)
              clear hb hc
              have c_Q := Q.out
              have Q0 := c_Q.c0
              have Q1 := c_Q.c1
              have Qz := fun k => frozen_of_row _ b_Q k _ _ c_Q
              clear c_Q
              have c_R := R.out
              have R0 := c_R.c0
              have R1 := c_R.c1
              have Rz := fun k => frozen_of_row _ b_R k _ _ c_R
              clear c_R
              have c_S := S.out
              have S0 := c_S.c0
              have S1 := c_S.c1
              have Sz := fun k => frozen_of_row _ b_S k _ _ c_S
              clear c_S
              have c_V := V.out
              have V0 := c_V.c0
              have V1 := c_V.c1
              have V2 := c_V.c2
              have V3 := c_V.c3
              have V4 := c_V.c4
              have Vz := c_V.z
              clear c_V
              go_upto_region 15 with fail
              clear Q0 Q1 Qz R0 R1 Rz S0 S1 Sz V0 V1 V2 V3 V4 Vz
              obtain ⟨y1, hy1⟩ : ∃ y1, y1 = put5 v1 b_V tx.1.1 tx.1.2 wyx false wtx := ⟨_, rfl⟩
              have ey1 := hy1.symm
              unfold put5 at ey1
              rw [ey1]
              clear ey1
              have E := Lib.hid (show Below x2.heap.size x2 y1 by rw [hy1]; exact put5_below E.out g_V_E.out _ _ _ _ _)
              have Q := Lib.hid (show PosAt y1 b_Q (qx.1 : Int) (qx.2 : Int) by rw [hy1]; exact Q.out.other5 (n_Q_V.out))
              have R := Lib.hid (show PosAt y1 b_R (qy.1 : Int) (qy.2 : Int) by rw [hy1]; exact R.out.other5 (n_R_V.out))
              have S := Lib.hid (show PosAt y1 b_S (qz.1 : Int) (qz.2 : Int) by rw [hy1]; exact S.out.other5 (n_S_V.out))
              have V := Lib.hid (show MvAt y1 b_V tx.1.1 tx.1.2 wyx false wtx by rw [hy1]; exact V.out.put _ _ _ _ _)
              clear hy1
              have c_Q := Q.out
              have Q0 := c_Q.c0
              have Q1 := c_Q.c1
              have Qz := fun k => frozen_of_row _ b_Q k _ _ c_Q
              clear c_Q
              have c_R := R.out
              have R0 := c_R.c0
              have R1 := c_R.c1
              have Rz := fun k => frozen_of_row _ b_R k _ _ c_R
              clear c_R
              have c_S := S.out
              have S0 := c_S.c0
              have S1 := c_S.c1
              have Sz := fun k => frozen_of_row _ b_S k _ _ c_S
              clear c_S
              have c_V := V.out
              have V0 := c_V.c0
              have V1 := c_V.c1
              have V2 := c_V.c2
              have V3 := c_V.c3
              have V4 := c_V.c4
              have Vz := c_V.z
              clear c_V
              clear Q0 Q1 Qz R0 R1 Rz S0 S1 Sz V0 V1 V2 V3 V4 Vz
              have c_Q := Q.out
              have Q0 := c_Q.c0
              have Q1 := c_Q.c1
              have Qz := fun k => frozen_of_row _ b_Q k _ _ c_Q
              clear c_Q
              have c_R := R.out
              have R0 := c_R.c0
              have R1 := c_R.c1
              have Rz := fun k => frozen_of_row _ b_R k _ _ c_R
              clear c_R
              have c_S := S.out
              have S0 := c_S.c0
              have S1 := c_S.c1
              have Sz := fun k => frozen_of_row _ b_S k _ _ c_S
              clear c_S
              have c_V := V.out
              have V0 := c_V.c0
              have V1 := c_V.c1
              have V2 := c_V.c2
              have V3 := c_V.c3
              have V4 := c_V.c4
              have Vz := c_V.z
              clear c_V
              go_upto_region 16 with fail
              clear Q0 Q1 Qz R0 R1 Rz S0 S1 Sz V0 V1 V2 V3 V4 Vz
              obtain ⟨z1, hz1⟩ : ∃ z1, z1 = ((y1.setCell ⟨b_Q, 0, none⟩ (.int .i64 tx.1.1)).setCell ⟨b_Q, 1, none⟩ (.int .i64 tx.1.2)) := ⟨_, rfl⟩
              rw [← hz1]
              have E := Lib.hid (show Below x2.heap.size x2 z1 by rw [hz1]; exact (E.out.setCell (p := ⟨b_Q, 0, none⟩) g_Q_E.out _).setCell (p := ⟨b_Q, 1, none⟩) g_Q_E.out _)
              have Q := Lib.hid (show PosAt z1 b_Q tx.1.1 tx.1.2 by rw [hz1]; exact So.set2 Q.out)
              have R := Lib.hid (show PosAt z1 b_R (qy.1 : Int) (qy.2 : Int) by rw [hz1]; exact (So.set2_other (n_Q_R.out.symm)).trans R.out)
              have S := Lib.hid (show PosAt z1 b_S (qz.1 : Int) (qz.2 : Int) by rw [hz1]; exact (So.set2_other (n_Q_S.out.symm)).trans S.out)
              have V := Lib.hid (show MvAt z1 b_V tx.1.1 tx.1.2 wyx false wtx by rw [hz1]; exact (So.set2_other (n_Q_V.out.symm)).trans V.out)
              clear hz1
              have c_Q := Q.out
              have Q0 := c_Q.c0
              have Q1 := c_Q.c1
              have Qz := fun k => frozen_of_row _ b_Q k _ _ c_Q
              clear c_Q
              have c_R := R.out
              have R0 := c_R.c0
              have R1 := c_R.c1
              have Rz := fun k => frozen_of_row _ b_R k _ _ c_R
              clear c_R
              have c_S := S.out
              have S0 := c_S.c0
              have S1 := c_S.c1
              have Sz := fun k => frozen_of_row _ b_S k _ _ c_S
              clear c_S
              have c_V := V.out
              have V0 := c_V.c0
              have V1 := c_V.c1
              have V2 := c_V.c2
              have V3 := c_V.c3
              have V4 := c_V.c4
              have Vz := c_V.z
              clear c_V
              obtain ⟨ty, ht⟩ : ∃ t : P2 × Bool, t = nthV (FB big ls qy) 1 := ⟨_, rfl⟩
              have hsty := Lib.hid (Stp.step (F := FB big ls) (fun pre rest x hh => bef_next (mks_sorted _) hh) HR.out.2.1 ht)
              have hpl := Stp.plc (ls := ls) HR.out.2.1 HPL.out (fun x hx => mem_sts (List.mem_filter.1 (List.mem_reverse.1 hx)).1)
              obtain ⟨wyy, wty, hf0⟩ := back_form (k := 1) (Nat.le_refl _) hpl ht
              have hf : backR ls qy.1 qy.2 1 big = ⟨ty.1.1, ty.1.2, wyy, false, wty, ty.2⟩ := hf0
              have hc := back_any a n c' ls qy.1 qy.2 1 big z1 (SrcV.below HS1.out (below_on DX.out E.out)) hs (by omega) (by omega)
              rw [hf] at hc
              dsimp only [Mv.R.v] at hc
              clear ht hpl hf0 hf
              go_wp2_with fail
              refine (hc).mono ?_
              rintro e v2 ⟨rfl, hb⟩
              clear Q0 Q1 Qz R0 R1 Rz S0 S1 Sz V0 V1 V2 V3 V4 Vz
              have E := Lib.hid (below_on E.out hb)
              have Q := Lib.hid (Q.out.below hb Q.out.lt)
              have R := Lib.hid (R.out.below hb R.out.lt)
              have S := Lib.hid (S.out.below hb S.out.lt)
              have V := Lib.hid (V.out.below hb V.out.lt)
              clear hb hc
              have c_Q := Q.out
              have Q0 := c_Q.c0
              have Q1 := c_Q.c1
              have Qz := fun k => frozen_of_row _ b_Q k _ _ c_Q
              clear c_Q
              have c_R := R.out
              have R0 := c_R.c0
              have R1 := c_R.c1
              have Rz := fun k => frozen_of_row _ b_R k _ _ c_R
              clear c_R
              have c_S := S.out
              have S0 := c_S.c0
              have S1 := c_S.c1
              have Sz := fun k => frozen_of_row _ b_S k _ _ c_S
              clear c_S
              have c_V := V.out
              have V0 := c_V.c0
              have V1 := c_V.c1
              have V2 := c_V.c2
              have V3 := c_V.c3
              have V4 := c_V.c4
              have Vz := c_V.z
              clear c_V
              go_upto_region 18 with fail
              clear Q0 Q1 Qz R0 R1 Rz S0 S1 Sz V0 V1 V2 V3 V4 Vz
              obtain ⟨y2, hy2⟩ : ∃ y2, y2 = put5 v2 b_V ty.1.1 ty.1.2 wyy false wty := ⟨_, rfl⟩
              have ey2 := hy2.symm
              unfold put5 at ey2
              rw [ey2]
              clear ey2
              have E := Lib.hid (show Below x2.heap.size x2 y2 by rw [hy2]; exact put5_below E.out g_V_E.out _ _ _ _ _)
              have Q := Lib.hid (show PosAt y2 b_Q tx.1.1 tx.1.2 by rw [hy2]; exact Q.out.other5 (n_Q_V.out))
              have R := Lib.hid (show PosAt y2 b_R (qy.1 : Int) (qy.2 : Int) by rw [hy2]; exact R.out.other5 (n_R_V.out))
              have S := Lib.hid (show PosAt y2 b_S (qz.1 : Int) (qz.2 : Int) by rw [hy2]; exact S.out.other5 (n_S_V.out))
              have V := Lib.hid (show MvAt y2 b_V ty.1.1 ty.1.2 wyy false wty by rw [hy2]; exact V.out.put _ _ _ _ _)
              clear hy2
              have c_Q := Q.out
              have Q0 := c_Q.c0
              have Q1 := c_Q.c1
              have Qz := fun k => frozen_of_row _ b_Q k _ _ c_Q
              clear c_Q
              have c_R := R.out
              have R0 := c_R.c0
              have R1 := c_R.c1
              have Rz := fun k => frozen_of_row _ b_R k _ _ c_R
              clear c_R
              have c_S := S.out
              have S0 := c_S.c0
              have S1 := c_S.c1
              have Sz := fun k => frozen_of_row _ b_S k _ _ c_S
              clear c_S
              have c_V := V.out
              have V0 := c_V.c0
              have V1 := c_V.c1
              have V2 := c_V.c2
              have V3 := c_V.c3
              have V4 := c_V.c4
              have Vz := c_V.z
              clear c_V
              clear Q0 Q1 Qz R0 R1 Rz S0 S1 Sz V0 V1 V2 V3 V4 Vz
              have c_Q := Q.out
              have Q0 := c_Q.c0
              have Q1 := c_Q.c1
              have Qz := fun k => frozen_of_row _ b_Q k _ _ c_Q
              clear c_Q
              have c_R := R.out
              have R0 := c_R.c0
              have R1 := c_R.c1
              have Rz := fun k => frozen_of_row _ b_R k _ _ c_R
              clear c_R
              have c_S := S.out
              have S0 := c_S.c0
              have S1 := c_S.c1
              have Sz := fun k => frozen_of_row _ b_S k _ _ c_S
              clear c_S
              have c_V := V.out
              have V0 := c_V.c0
              have V1 := c_V.c1
              have V2 := c_V.c2
              have V3 := c_V.c3
              have V4 := c_V.c4
              have Vz := c_V.z
              clear c_V
              go_upto_region 19 with fail
              clear Q0 Q1 Qz R0 R1 Rz S0 S1 Sz V0 V1 V2 V3 V4 Vz
              obtain ⟨z2, hz2⟩ : ∃ z2, z2 = ((y2.setCell ⟨b_R, 0, none⟩ (.int .i64 ty.1.1)).setCell ⟨b_R, 1, none⟩ (.int .i64 ty.1.2)) := ⟨_, rfl⟩
              rw [← hz2]
              have E := Lib.hid (show Below x2.heap.size x2 z2 by rw [hz2]; exact (E.out.setCell (p := ⟨b_R, 0, none⟩) g_R_E.out _).setCell (p := ⟨b_R, 1, none⟩) g_R_E.out _)
              have Q := Lib.hid (show PosAt z2 b_Q tx.1.1 tx.1.2 by rw [hz2]; exact (So.set2_other (n_Q_R.out)).trans Q.out)
              have R := Lib.hid (show PosAt z2 b_R ty.1.1 ty.1.2 by rw [hz2]; exact So.set2 R.out)
              have S := Lib.hid (show PosAt z2 b_S (qz.1 : Int) (qz.2 : Int) by rw [hz2]; exact (So.set2_other (n_R_S.out.symm)).trans S.out)
              have V := Lib.hid (show MvAt z2 b_V ty.1.1 ty.1.2 wyy false wty by rw [hz2]; exact (So.set2_other (n_R_V.out.symm)).trans V.out)
              clear hz2
              have c_Q := Q.out
              have Q0 := c_Q.c0
              have Q1 := c_Q.c1
              have Qz := fun k => frozen_of_row _ b_Q k _ _ c_Q
              clear c_Q
              have c_R := R.out
              have R0 := c_R.c0
              have R1 := c_R.c1
              have Rz := fun k => frozen_of_row _ b_R k _ _ c_R
              clear c_R
              have c_S := S.out
              have S0 := c_S.c0
              have S1 := c_S.c1
              have Sz := fun k => frozen_of_row _ b_S k _ _ c_S
              clear c_S
              have c_V := V.out
              have V0 := c_V.c0
              have V1 := c_V.c1
              have V2 := c_V.c2
              have V3 := c_V.c3
              have V4 := c_V.c4
              have Vz := c_V.z
              clear c_V
              obtain ⟨tz, ht⟩ : ∃ t : P2 × Bool, t = nthV (FT big ls qz) 1 := ⟨_, rfl⟩
              have hstz := Lib.hid (Stp.step (F := FT big ls) (fun pre rest x hh => aft_next (mks_sorted _) hh) HR.out.2.2.1 ht)
              have hpl := Stp.plc (ls := ls) HR.out.2.2.1 HPL.out (fun x hx => mem_eds (List.mem_filter.1 hx).1)
              obtain ⟨wyz, wtz, hf0⟩ := tail_form (k := 1) (Nat.le_refl _) hpl ht
              have hf : tailR ls qz.1 qz.2 1 big false = ⟨tz.1.1, tz.1.2, wyz, false, wtz, tz.2⟩ := hf0
              have hc := tail_any a n c' ls qz.1 qz.2 1 big false z2 (SrcV.below HS1.out (below_on DX.out E.out)) hs (by omega) (by omega)
              rw [hf] at hc
              dsimp only [Mv.R.v] at hc
              clear ht hpl hf0 hf
              go_wp2_with fail
              refine (hc).mono ?_
              rintro e v3 ⟨rfl, hb⟩
              clear Q0 Q1 Qz R0 R1 Rz S0 S1 Sz V0 V1 V2 V3 V4 Vz
              have E := Lib.hid (below_on E.out hb)
              have Q := Lib.hid (Q.out.below hb Q.out.lt)
              have R := Lib.hid (R.out.below hb R.out.lt)
              have S := Lib.hid (S.out.below hb S.out.lt)
              have V := Lib.hid (V.out.below hb V.out.lt)
              clear hb hc
              have c_Q := Q.out
              have Q0 := c_Q.c0
              have Q1 := c_Q.c1
              have Qz := fun k => frozen_of_row _ b_Q k _ _ c_Q
              clear c_Q
              have c_R := R.out
              have R0 := c_R.c0
              have R1 := c_R.c1
              have Rz := fun k => frozen_of_row _ b_R k _ _ c_R
              clear c_R
              have c_S := S.out
              have S0 := c_S.c0
              have S1 := c_S.c1
              have Sz := fun k => frozen_of_row _ b_S k _ _ c_S
              clear c_S
              have c_V := V.out
              have V0 := c_V.c0
              have V1 := c_V.c1
              have V2 := c_V.c2
              have V3 := c_V.c3
              have V4 := c_V.c4
              have Vz := c_V.z
              clear c_V
              go_upto_region 21 with fail
              clear Q0 Q1 Qz R0 R1 Rz S0 S1 Sz V0 V1 V2 V3 V4 Vz
              obtain ⟨y3, hy3⟩ : ∃ y3, y3 = put5 v3 b_V tz.1.1 tz.1.2 wyz false wtz := ⟨_, rfl⟩
              have ey3 := hy3.symm
              unfold put5 at ey3
              rw [ey3]
              clear ey3
              have E := Lib.hid (show Below x2.heap.size x2 y3 by rw [hy3]; exact put5_below E.out g_V_E.out _ _ _ _ _)
              have Q := Lib.hid (show PosAt y3 b_Q tx.1.1 tx.1.2 by rw [hy3]; exact Q.out.other5 (n_Q_V.out))
              have R := Lib.hid (show PosAt y3 b_R ty.1.1 ty.1.2 by rw [hy3]; exact R.out.other5 (n_R_V.out))
              have S := Lib.hid (show PosAt y3 b_S (qz.1 : Int) (qz.2 : Int) by rw [hy3]; exact S.out.other5 (n_S_V.out))
              have V := Lib.hid (show MvAt y3 b_V tz.1.1 tz.1.2 wyz false wtz by rw [hy3]; exact V.out.put _ _ _ _ _)
              clear hy3
              have c_Q := Q.out
              have Q0 := c_Q.c0
              have Q1 := c_Q.c1
              have Qz := fun k => frozen_of_row _ b_Q k _ _ c_Q
              clear c_Q
              have c_R := R.out
              have R0 := c_R.c0
              have R1 := c_R.c1
              have Rz := fun k => frozen_of_row _ b_R k _ _ c_R
              clear c_R
              have c_S := S.out
              have S0 := c_S.c0
              have S1 := c_S.c1
              have Sz := fun k => frozen_of_row _ b_S k _ _ c_S
              clear c_S
              have c_V := V.out
              have V0 := c_V.c0
              have V1 := c_V.c1
              have V2 := c_V.c2
              have V3 := c_V.c3
              have V4 := c_V.c4
              have Vz := c_V.z
              clear c_V
              clear Q0 Q1 Qz R0 R1 Rz S0 S1 Sz V0 V1 V2 V3 V4 Vz
              have c_Q := Q.out
              have Q0 := c_Q.c0
              have Q1 := c_Q.c1
              have Qz := fun k => frozen_of_row _ b_Q k _ _ c_Q
              clear c_Q
              have c_R := R.out
              have R0 := c_R.c0
              have R1 := c_R.c1
              have Rz := fun k => frozen_of_row _ b_R k _ _ c_R
              clear c_R
              have c_S := S.out
              have S0 := c_S.c0
              have S1 := c_S.c1
              have Sz := fun k => frozen_of_row _ b_S k _ _ c_S
              clear c_S
              have c_V := V.out
              have V0 := c_V.c0
              have V1 := c_V.c1
              have V2 := c_V.c2
              have V3 := c_V.c3
              have V4 := c_V.c4
              have Vz := c_V.z
              clear c_V
              go_upto_region 11 with fail
              clear Q0 Q1 Qz R0 R1 Rz S0 S1 Sz V0 V1 V2 V3 V4 Vz
              obtain ⟨z3, hz3⟩ : ∃ z3, z3 = ((y3.setCell ⟨b_S, 0, none⟩ (.int .i64 tz.1.1)).setCell ⟨b_S, 1, none⟩ (.int .i64 tz.1.2)) := ⟨_, rfl⟩
              rw [← hz3]
              have E := Lib.hid (show Below x2.heap.size x2 z3 by rw [hz3]; exact (E.out.setCell (p := ⟨b_S, 0, none⟩) g_S_E.out _).setCell (p := ⟨b_S, 1, none⟩) g_S_E.out _)
              have Q := Lib.hid (show PosAt z3 b_Q tx.1.1 tx.1.2 by rw [hz3]; exact (So.set2_other (n_Q_S.out)).trans Q.out)
              have R := Lib.hid (show PosAt z3 b_R ty.1.1 ty.1.2 by rw [hz3]; exact (So.set2_other (n_R_S.out)).trans R.out)
              have S := Lib.hid (show PosAt z3 b_S tz.1.1 tz.1.2 by rw [hz3]; exact So.set2 S.out)
              have V := Lib.hid (show MvAt z3 b_V tz.1.1 tz.1.2 wyz false wtz by rw [hz3]; exact (So.set2_other (n_S_V.out.symm)).trans V.out)
              clear hz3
              have c_Q := Q.out
              have Q0 := c_Q.c0
              have Q1 := c_Q.c1
              have Qz := fun k => frozen_of_row _ b_Q k _ _ c_Q
              clear c_Q
              have c_R := R.out
              have R0 := c_R.c0
              have R1 := c_R.c1
              have Rz := fun k => frozen_of_row _ b_R k _ _ c_R
              clear c_R
              have c_S := S.out
              have S0 := c_S.c0
              have S1 := c_S.c1
              have Sz := fun k => frozen_of_row _ b_S k _ _ c_S
              clear c_S
              have c_V := V.out
              have V0 := c_V.c0
              have V1 := c_V.c1
              have V2 := c_V.c2
              have V3 := c_V.c3
              have V4 := c_V.c4
              have Vz := c_V.z
              clear c_V
              go_wp2
              go_roundw
              case rel => exact ⟨k + 1, tx.2, ty.2, tz.2, tx.1, ty.1, tz.1, by omega, rfl, rfl, rfl, by go_num, hstx.out, hsty.out, hstz.out, Q.out, R.out, S.out, E.out⟩
              case measure => simp [RowKit.intOf]; omega
      · obtain rfl : k = K := by omega
        have P := Lib.hid (PX.out.below E.out PX.out.lt)
        obtain ⟨wyx, wtx, hf⟩ := next_form (big := big) (ls := ls) (q := (i, m)) (k := k) (by omega) HPL.out (Stp.fin HR.out.1 (by omega)).symm
        have cx := fun W (hW : Below x2.heap.size x2 W) => next_any a n c' ls i m k big false W (SrcV.below HS1.out (below_on DX.out hW)) hs (by omega) (by omega)
        rw [hf] at cx
        dsimp only [Mv.R.v] at cx
        clear hf
        obtain ⟨wyy, wty, hf⟩ := back_form (big := big) (ls := ls) (q := (i, m)) (k := k) (by omega) HPL.out (Stp.fin HR.out.2.1 (by omega)).symm
        have cy := fun W (hW : Below x2.heap.size x2 W) => back_any a n c' ls i m k big W (SrcV.below HS1.out (below_on DX.out hW)) hs (by omega) (by omega)
        rw [hf] at cy
        dsimp only [Mv.R.v] at cy
        clear hf
        obtain ⟨wyz, wtz, hf⟩ := tail_form (big := big) (ls := ls) (q := (i, m)) (k := k) (by omega) HPL.out (Stp.fin HR.out.2.2.1 (by omega)).symm
        have cz := fun W (hW : Below x2.heap.size x2 W) => tail_any a n c' ls i m k big false W (SrcV.below HS1.out (below_on DX.out hW)) hs (by omega) (by omega)
        rw [hf] at cz
        dsimp only [Mv.R.v] at cz
        clear hf
        have c_Q := Q.out
        have Q0 := c_Q.c0
        have Q1 := c_Q.c1
        clear c_Q
        have c_R := R.out
        have R0 := c_R.c0
        have R1 := c_R.c1
        clear c_R
        have c_S := S.out
        have S0 := c_S.c0
        have S1 := c_S.c1
        clear c_S
        have c_P := P.out
        have P0 := c_P.c0
        have P1 := c_P.c1
        clear c_P
        go_wp2_with fail
        refine (cx _ E.out).mono ?_
        rintro e vA ⟨rfl, hb⟩
        clear Q0 Q1 R0 R1 S0 S1 P0 P1
        have E := Lib.hid (below_on E.out hb)
        have Q := Lib.hid (Q.out.below hb Q.out.lt)
        have R := Lib.hid (R.out.below hb R.out.lt)
        have S := Lib.hid (S.out.below hb S.out.lt)
        have P := Lib.hid (P.out.below hb P.out.lt)
        clear hb cx
        go_upto_region 23 with fail
        obtain ⟨yA, hyA⟩ : ∃ yA, yA = vA.alloc (.cells #[.int .i64 qx.1, .int .i64 qx.2, .int .i64 wyx, .bool false, .int .i64 wtx] 40) := ⟨_, rfl⟩
        have hA : Below vA.heap.size vA yA := by rw [hyA]; exact (Below.refl _ vA).alloc (Nat.le_refl _) _
        have hV := MvAt.new vA qx.1 qx.2 wyx wtx false
        rw [← hyA] at hV ⊢
        have lt_Q := Q.out.lt
        have lt_R := R.out.lt
        have lt_S := S.out.lt
        have lt_P := P.out.lt
        have gg_E := E.out.size
        have E := Lib.hid (below_on E.out hA)
        have Q := Lib.hid (Q.out.below hA Q.out.lt)
        have R := Lib.hid (R.out.below hA R.out.lt)
        have S := Lib.hid (S.out.below hA S.out.lt)
        have P := Lib.hid (P.out.below hA P.out.lt)
        obtain ⟨b_A, hbf⟩ : ∃ b, b = vA.heap.size := ⟨_, rfl⟩
        rw [← hbf] at hV ⊢
        have n_Q_A := Lib.hid (show b_Q ≠ b_A by omega)
        clear lt_Q
        have n_R_A := Lib.hid (show b_R ≠ b_A by omega)
        clear lt_R
        have n_S_A := Lib.hid (show b_S ≠ b_A by omega)
        clear lt_S
        have n_P_A := Lib.hid (show b_P ≠ b_A by omega)
        clear lt_P
        have g_A_E := Lib.hid (show x2.heap.size ≤ b_A by rw [hbf]; exact gg_E)
        clear gg_E
        have A := Lib.hid hV
        clear hV hA hyA hbf
        have c_Q := Q.out
        have Q0 := c_Q.c0
        have Q1 := c_Q.c1
        clear c_Q
        have c_R := R.out
        have R0 := c_R.c0
        have R1 := c_R.c1
        clear c_R
        have c_S := S.out
        have S0 := c_S.c0
        have S1 := c_S.c1
        clear c_S
        have c_P := P.out
        have P0 := c_P.c0
        have P1 := c_P.c1
        clear c_P
        have c_A := A.out
        have A0 := c_A.c0
        have A1 := c_A.c1
        have A2 := c_A.c2
        have A3 := c_A.c3
        have A4 := c_A.c4
        clear c_A
        go_wp2_with fail
        refine (cy _ E.out).mono ?_
        rintro e vB ⟨rfl, hb⟩
        clear Q0 Q1 R0 R1 S0 S1 P0 P1 A0 A1 A2 A3 A4
        have E := Lib.hid (below_on E.out hb)
        have Q := Lib.hid (Q.out.below hb Q.out.lt)
        have R := Lib.hid (R.out.below hb R.out.lt)
        have S := Lib.hid (S.out.below hb S.out.lt)
        have P := Lib.hid (P.out.below hb P.out.lt)
        have A := Lib.hid (A.out.below hb A.out.lt)
        clear hb cy
        go_upto_region 24 with fail
        obtain ⟨yB, hyB⟩ : ∃ yB, yB = vB.alloc (.cells #[.int .i64 qy.1, .int .i64 qy.2, .int .i64 wyy, .bool false, .int .i64 wty] 40) := ⟨_, rfl⟩
        have hA : Below vB.heap.size vB yB := by rw [hyB]; exact (Below.refl _ vB).alloc (Nat.le_refl _) _
        have hV := MvAt.new vB qy.1 qy.2 wyy wty false
        rw [← hyB] at hV ⊢
        have lt_Q := Q.out.lt
        have lt_R := R.out.lt
        have lt_S := S.out.lt
        have lt_P := P.out.lt
        have lt_A := A.out.lt
        have gg_E := E.out.size
        have E := Lib.hid (below_on E.out hA)
        have Q := Lib.hid (Q.out.below hA Q.out.lt)
        have R := Lib.hid (R.out.below hA R.out.lt)
        have S := Lib.hid (S.out.below hA S.out.lt)
        have P := Lib.hid (P.out.below hA P.out.lt)
        have A := Lib.hid (A.out.below hA A.out.lt)
        obtain ⟨b_B, hbf⟩ : ∃ b, b = vB.heap.size := ⟨_, rfl⟩
        rw [← hbf] at hV ⊢
        have n_Q_B := Lib.hid (show b_Q ≠ b_B by omega)
        clear lt_Q
        have n_R_B := Lib.hid (show b_R ≠ b_B by omega)
        clear lt_R
        have n_S_B := Lib.hid (show b_S ≠ b_B by omega)
        clear lt_S
        have n_P_B := Lib.hid (show b_P ≠ b_B by omega)
        clear lt_P
        have n_A_B := Lib.hid (show b_A ≠ b_B by omega)
        clear lt_A
        have g_B_E := Lib.hid (show x2.heap.size ≤ b_B by rw [hbf]; exact gg_E)
        clear gg_E
        have B := Lib.hid hV
        clear hV hA hyB hbf
        have c_Q := Q.out
        have Q0 := c_Q.c0
        have Q1 := c_Q.c1
        clear c_Q
        have c_R := R.out
        have R0 := c_R.c0
        have R1 := c_R.c1
        clear c_R
        have c_S := S.out
        have S0 := c_S.c0
        have S1 := c_S.c1
        clear c_S
        have c_P := P.out
        have P0 := c_P.c0
        have P1 := c_P.c1
        clear c_P
        have c_A := A.out
        have A0 := c_A.c0
        have A1 := c_A.c1
        have A2 := c_A.c2
        have A3 := c_A.c3
        have A4 := c_A.c4
        clear c_A
        have c_B := B.out
        have B0 := c_B.c0
        have B1 := c_B.c1
        have B2 := c_B.c2
        have B3 := c_B.c3
        have B4 := c_B.c4
        clear c_B
        go_wp2_with fail
        refine (cz _ E.out).mono ?_
        rintro e vC ⟨rfl, hb⟩
        clear Q0 Q1 R0 R1 S0 S1 P0 P1 A0 A1 A2 A3 A4 B0 B1 B2 B3 B4
        have E := Lib.hid (below_on E.out hb)
        have Q := Lib.hid (Q.out.below hb Q.out.lt)
        have R := Lib.hid (R.out.below hb R.out.lt)
        have S := Lib.hid (S.out.below hb S.out.lt)
        have P := Lib.hid (P.out.below hb P.out.lt)
        have A := Lib.hid (A.out.below hb A.out.lt)
        have B := Lib.hid (B.out.below hb B.out.lt)
        clear hb cz
        go_upto_region 25 with fail
        obtain ⟨yC, hyC⟩ : ∃ yC, yC = vC.alloc (.cells #[.int .i64 qz.1, .int .i64 qz.2, .int .i64 wyz, .bool false, .int .i64 wtz] 40) := ⟨_, rfl⟩
        have hA : Below vC.heap.size vC yC := by rw [hyC]; exact (Below.refl _ vC).alloc (Nat.le_refl _) _
        have hV := MvAt.new vC qz.1 qz.2 wyz wtz false
        rw [← hyC] at hV ⊢
        have lt_Q := Q.out.lt
        have lt_R := R.out.lt
        have lt_S := S.out.lt
        have lt_P := P.out.lt
        have lt_A := A.out.lt
        have lt_B := B.out.lt
        have gg_E := E.out.size
        have E := Lib.hid (below_on E.out hA)
        have Q := Lib.hid (Q.out.below hA Q.out.lt)
        have R := Lib.hid (R.out.below hA R.out.lt)
        have S := Lib.hid (S.out.below hA S.out.lt)
        have P := Lib.hid (P.out.below hA P.out.lt)
        have A := Lib.hid (A.out.below hA A.out.lt)
        have B := Lib.hid (B.out.below hA B.out.lt)
        obtain ⟨b_C, hbf⟩ : ∃ b, b = vC.heap.size := ⟨_, rfl⟩
        rw [← hbf] at hV ⊢
        have n_Q_C := Lib.hid (show b_Q ≠ b_C by omega)
        clear lt_Q
        have n_R_C := Lib.hid (show b_R ≠ b_C by omega)
        clear lt_R
        have n_S_C := Lib.hid (show b_S ≠ b_C by omega)
        clear lt_S
        have n_P_C := Lib.hid (show b_P ≠ b_C by omega)
        clear lt_P
        have n_A_C := Lib.hid (show b_A ≠ b_C by omega)
        clear lt_A
        have n_B_C := Lib.hid (show b_B ≠ b_C by omega)
        clear lt_B
        have g_C_E := Lib.hid (show x2.heap.size ≤ b_C by rw [hbf]; exact gg_E)
        clear gg_E
        have C := Lib.hid hV
        clear hV hA hyC hbf
        have c_Q := Q.out
        have Q0 := c_Q.c0
        have Q1 := c_Q.c1
        clear c_Q
        have c_R := R.out
        have R0 := c_R.c0
        have R1 := c_R.c1
        clear c_R
        have c_S := S.out
        have S0 := c_S.c0
        have S1 := c_S.c1
        clear c_S
        have c_P := P.out
        have P0 := c_P.c0
        have P1 := c_P.c1
        clear c_P
        have c_A := A.out
        have A0 := c_A.c0
        have A1 := c_A.c1
        have A2 := c_A.c2
        have A3 := c_A.c3
        have A4 := c_A.c4
        clear c_A
        have c_B := B.out
        have B0 := c_B.c0
        have B1 := c_B.c1
        have B2 := c_B.c2
        have B3 := c_B.c3
        have B4 := c_B.c4
        clear c_B
        have c_C := C.out
        have C0 := c_C.c0
        have C1 := c_C.c1
        have C2 := c_C.c2
        have C3 := c_C.c3
        have C4 := c_C.c4
        clear c_C
        have he : ∀ (a b : Int) (W : World), (binOp .eql 35 (.agg #[.int .i64 a, .int .i64 b]) (.agg #[.int .i64 a, .int .i64 b])).run Try.prog W = .ok (.bool true) W := fun a b W => by rw [eq_pos]; simp
        cases ox <;> cases oy <;> cases oz
        all_goals
          go_wp2
          go_ret
          exact ⟨rfl, below_on HB1.out (below_on DX.out E.out)⟩

end Go.Proofs.Ytdgckgfbdplnpaa.ZSte
