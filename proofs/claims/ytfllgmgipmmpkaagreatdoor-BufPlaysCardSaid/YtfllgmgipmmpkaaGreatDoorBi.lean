/-
  Buffers: the iterator All.
-/
import Derived.Test.YtfllgmgipmmpkaaGreatDoorBr
import Derived.Test.YtfllgmgipmmpkaaGreatDoorRnd
import Derived.StillTailTactics
import Derived.RegionTactic
import Derived.BigQuiet
set_option linter.unusedVariables false
set_option linter.unusedSimpArgs false
set_option maxRecDepth 100000
namespace Go.Proofs.YtfllgmgipmmpkaaGreatDoor.Bf
open Go Go.RowKit Go.Proofs.YtfllgmgipmmpkaaGreatDoor.Vk Go.Proofs.YtfllgmgipmmpkaaGreatDoor.Tm Go.Proofs.YtfllgmgipmmpkaaGreatDoor.Tf Go.Proofs.YtfllgmgipmmpkaaGreatDoor.Lm Go.Shelf
attribute [local go_sem] Oper.semAt_some

theorem all_new (b : Nat) (w : World) : Calls Tryz.prog 33 #[.pointer (some ⟨b, 0, none⟩)] w fun e w' =>
    e = .returned (.func (.func 56) #[] #[.pointer (some ⟨w.heap.size, 0, none⟩)]) ∧ w.alloc (.cells #[.pointer (some ⟨b, 0, none⟩)] 26) = w' := by
  go_enter Tryz.func33, Tryz.ntmps33
  go_wp2
  go_ret
  exact ⟨rfl, rfl⟩

theorem _root_.Go.Proofs.YtfllgmgipmmpkaaGreatDoor.Tf.MaxOk.below {w w' : World} (h : MaxOk w) (hb : Below w.heap.size w w') : MaxOk w' := by
  obtain ⟨m, hm⟩ := h
  exact ⟨m, (hb.cell (World.block_lt_of_cell? w _ hm)).trans hm⟩

/-- Every block of cells from B on lies as it lay. -/
def KpC (B : Nat) (A C : World) : Prop := ∀ k, B ≤ k → ∀ o, A.heap[k]? = some o → o.isCells = true → C.heap[k]? = some o
theorem KpC.refl (B : Nat) (A : World) : KpC B A A := fun _ _ _ h _ => h
theorem KpC.trans {B : Nat} {X Y Z : World} (h : KpC B X Y) (k : KpC B Y Z) : KpC B X Z := fun i hi o ho hc => k i hi o (h i hi o ho hc) hc
theorem KpC.putObj (B : Nat) (W : World) (l : Nat) (o o' : Obj) (h : W.heap[l]? = some o) (hc : o.isCells = false) : KpC B W (W.putObj l o') := by
  intro k hk x hx hxc
  have hne : k ≠ l := by rintro rfl; rw [h] at hx; cases hx; rw [hc] at hxc; cases hxc
  exact (World.putObj_heap_other hne).trans hx
theorem KpC.ofFr {B : Nat} {S : Nat → Prop} {X Y : World} (h : Fr S X Y) (hs : ∀ k, S k → k < B) : KpC B X Y := fun k hk o ho _ =>
  (h.block k (Array.getElem?_eq_some_iff.1 ho).1 (fun x => by have := hs k x; omega)).trans ho

/-- The lines with their numbers. -/
def en (ls : List ByteArray) : List (Nat × ByteArray) := (List.range ls.length).map fun k => (k, ls.getD k ⟨#[]⟩)
theorem en_length (ls : List ByteArray) : (en ls).length = ls.length := by simp [en]
theorem en_at {ls : List ByteArray} {pre rest : List (Nat × ByteArray)} {x : Nat × ByteArray} (h : en ls = pre ++ x :: rest) : ∃ hk : pre.length < ls.length, x = (pre.length, ls[pre.length]) := by
  have hl : pre.length < (en ls).length := by rw [h]; simp
  have h2 : (en ls)[pre.length]? = some x := by rw [h]; simp
  rw [en_length] at hl
  refine ⟨hl, ?_⟩
  unfold en at h2
  rw [List.getElem?_map, List.getElem?_range hl] at h2
  simp only [Option.map_some, Option.some.injEq] at h2
  rw [← h2, List.getD_eq_getElem?_getD, List.getElem?_eq_getElem hl]; rfl
theorem en_cut (ls : List ByteArray) (k : Nat) (hk : k < ls.length) : (∃ rest, en ls = (en ls).take k ++ (k, ls[k]) :: rest) ∧ (en ls).take (k + 1) = (en ls).take k ++ [(k, ls[k])] := by
  have hl : k < (en ls).length := by rw [en_length]; exact hk
  have hx : (en ls)[k] = (k, ls[k]) := by
    obtain ⟨h1, h2⟩ := en_at (ls := ls) (pre := (en ls).take k) (x := (en ls)[k]) (rest := (en ls).drop (k + 1)) (by rw [← List.drop_eq_getElem_cons hl, List.take_append_drop])
    have : ((en ls).take k).length = k := by rw [List.length_take]; omega
    simp only [this] at h2
    exact h2
  refine ⟨⟨(en ls).drop (k + 1), ?_⟩, ?_⟩
  · rw [← hx, ← List.drop_eq_getElem_cons hl, List.take_append_drop]
  · rw [List.take_succ_eq_append_getElem hl, hx]

def enc2 (x : Nat × ByteArray) : Array Value := #[.int .i64 x.1, .string x.2]

set_option maxHeartbeats 2000000 in
theorem all_iter {w : World} {base b : Nat} {F : Nat → Prop} {ls : List ByteArray} {edits np used : Nat} (bx : Nat) (h : Buf w base b F ls edits np used) (hm : MaxOk w) (hu : used ≤ 400000)
    (hx : w.cell? ⟨bx, 0, none⟩ = some (.pointer (some ⟨b, 0, none⟩))) :
    Iter Tryz.prog 56 #[.pointer (some ⟨bx, 0, none⟩)] enc2 0 (KpC w.heap.size) (en ls) w := fun l J Jx W hW hJ hJx hY h0 => by
  have hf := h.facts
  have hcx : W.cell? ⟨bx, 0, none⟩ = some (.pointer (some ⟨b, 0, none⟩)) := (hW.cell (World.block_lt_of_cell? w _ hx)).trans hx
  have hmW : MaxOk W := hm.below hW
  have hWs := hW.size
  obtain ⟨t, x, Ft, Fx, hb, hbb, ht, hix, _⟩ := h.below hW
  obtain ⟨c0, c1⟩ := head_cells hb
  have hJd : J [] W.drew := hJ [] W W.drew none h0 ⟨rfl, rfl, rfl, Nat.le_refl _, fun _ _ _ => rfl⟩ (fun r e => by cases e)
  have htl := Tb.tlen (ht.below (Below.refl _ W).drew)
  have hsl := tslice' (ht.below (Below.refl _ W).drew) 0 (jn ls).length (by omega) (by omega) hu
  rw [List.drop_zero, List.take_length] at hsl
  have htx : (⟨(jn ls).toArray⟩ : ByteArray).data.toList = jn ls := of_bytes _
  have htz : (⟨(jn ls).toArray⟩ : ByteArray).size ≤ 4096 := by rw [of_size]; omega
  have hsp : ∀ w2, MaxOk w2 → _ := fun w2 hm2 => split_any ⟨(jn ls).toArray⟩ ls hf.2.1 hf.2.2.1 (by rw [htx]; exact (trim_jn ls hf.2.2.1).symm) w2 hm2 (by omega)
  generalize (⟨(jn ls).toArray⟩ : ByteArray) = tx at *
  have hlen : ls.length ≤ 4096 := by have := jn_len_ge ls; omega
  generalize hjl : (jn ls).length = jl at *
  have HSP := Lib.hid hsp
  have HMW := Lib.hid hmW
  clear hx hm h hW h0 hb ht hix c1 hsp hmW
  refine callsIn_of_wp Tryz.func56 rfl trivial ?_ rfl
  simp only [Tryz.ntmps56, List.size_toArray, List.length_cons, List.length_nil, Nat.reduceAdd, Nat.reduceSub, Array.replicate_succ, Array.replicate_zero, List.push_toArray, List.append_toArray, List.nil_append, List.cons_append]
  gi_wp2
  refine wpIn_wide.2 ?_
  go_region_held3 (fun w' => w'.cell? ⟨bx, 0, none⟩ = some (.pointer (some ⟨b, 0, none⟩)) ∧ w'.cell? ⟨b, 0, none⟩ = some (.pointer (some ⟨t, 0, none⟩)))
      (first | go_keep | exact ⟨d1, d2⟩)
      (first
        | (go_at_call 37; refine htl.mono ?_
           rintro e w2 ⟨rfl, rfl⟩)
        | (go_at_call 39; refine hsl.mono ?_
           rintro e w2 ⟨rfl, hb2⟩
           have d1 : w2.cell? ⟨bx, 0, none⟩ = some (.pointer (some ⟨b, 0, none⟩)) := (hb2.cell (World.block_lt_of_cell? W _ hcx)).trans hcx
           have d2 : w2.cell? ⟨b, 0, none⟩ = some (.pointer (some ⟨t, 0, none⟩)) := (hb2.cell (World.block_lt_of_cell? W _ c0)).trans c0
           have hbW : Below W.heap.size W w2 := ((Below.refl _ W).drew).trans hb2
           have hmk := HSP.out w2 (HMW.out.below hbW)
           have hJ2 : J [] w2 := hJ [] W.drew w2 none hJd ⟨hb2.os, hb2.tape, hb2.output, hb2.size, fun k hk _ => hb2.block k hk⟩ (fun r e => by cases e)
           have HJ2 := Lib.hid hJ2
           have hs2 := hbW.size
           clear hb2 hbW hJ2))
  clear d1 d2 hcx c0 htl hsl hJd
  gi_wp2
  refine ⟨trivial, ?_⟩
  refine (callsIn_wide.2 hmk).mono ?_
  rintro e w3 ⟨rfl, hw3⟩
  have hs3 : w3.heap.size = w2.heap.size + 1 := by rw [hw3]; simp
  have hb3 : w3.heap[w2.heap.size]? = some (.cells (ls.map Value.string).toArray 9 (0, 0)) := by rw [hw3]; exact World.alloc_heap_new w2 _
  have hJ3 : J [] w3 := by rw [hw3]; exact hJ.alloc _ HJ2.out
  have HJ3 := Lib.hid hJ3
  clear hJ3 hmk hw3
  gi_wp2
  gi_loopw [23] (fun i wr => ∃ k : Nat, k ≤ ls.length ∧ i = .int .i64 k ∧ Hid (J ((en ls).take k) wr) ∧ Hid (wr.heap[w2.heap.size]? = some (.cells (ls.map Value.string).toArray 9 (0, 0))) ∧ W.heap.size ≤ wr.heap.size) (fun i _ => ls.length - (RowKit.intOf i).toNat)
  case atStart => exact ⟨0, Nat.zero_le _, rfl, HJ3.out, hb3, by omega⟩
  case round =>
    obtain ⟨k, hk, rfl, hj, hbr, hsz⟩ := hrel
    by_cases hkn : k < ls.length
    · have hck : wr.cell? ⟨w2.heap.size, k, none⟩ = some (.string ls[k]) := (cell_of_row wr _ k _ _ _ hbr.out).trans (by simp [hkn])
      obtain ⟨hcut, hts⟩ := en_cut ls k hkn
      obtain ⟨fn, tmps, assign, body, hy, hR⟩ := hY ((en ls).take k) (k, ls[k]) wr hcut (by omega) hj.out
      have HTS := Lib.hid hts
      have HR := Lib.hid hR
      unfold enc2 at hy
      dsimp only at hy
      clear hR hts hcut
      generalize ls[k] = st at *
      gi_wp2
      refine (roundIn_any HR.out).mono ?_
      rintro e W3 ⟨⟨hsz3, _⟩, (⟨rfl, hJ3, hk3⟩ | ⟨rfl, hJx3⟩)⟩
      · have H3 := Lib.hid hJ3
        have H4 := Lib.hid (hk3 w2.heap.size (by omega) _ hbr.out rfl)
        clear hJ3 hk3
        gi_wp2
        go_roundw
        case rel => exact ⟨k + 1, by omega, by go_num, by rw [HTS.out]; exact H3.out, H4.out, by omega⟩
        case measure => simp [RowKit.intOf]; omega
      · have H3 := Lib.hid hJx3
        clear hJx3
        gi_wp2
        refine bodyPost_ret (results_none rfl _ _ _) rfl ?_
        refine ⟨⟨_, rfl⟩, .inr ⟨_, ?_, by simp, H3.out⟩⟩
        rw [← HTS.out]
        exact List.take_prefix _ _
    · obtain rfl : k = ls.length := by omega
      gi_wp2
      go_end0
      refine ⟨⟨_, rfl⟩, .inl ?_⟩
      have := hj.out
      rwa [List.take_of_length_le (by rw [en_length]; omega)] at this

end Go.Proofs.YtfllgmgipmmpkaaGreatDoor.Bf
