/-
  Bytes written over one by one: a row of bytes of one's own, a made row of zeros; the document's same.
-/
import Derived.Test.YtkddnknjjdenhaaEdn
import Derived.Laws.MakeOwn
set_option linter.unusedVariables false
set_option linter.unusedSimpArgs false
set_option maxRecDepth 100000
namespace Go.Proofs.Ytkddnknjjdenhaa.Ed
open Go Go.RowKit Go.Proofs.Ytkddnknjjdenhaa.Vk Go.Proofs.Ytkddnknjjdenhaa.Str Go.Proofs.Ytkddnknjjdenhaa.Ln Go.Proofs.Ytkddnknjjdenhaa.Cl Go.Proofs.Ytkddnknjjdenhaa.Mv
attribute [local go_sem] Oper.semAt_some

/-- A byte is written anew. -/
def bset (s : ByteArray) (k : Nat) (x : UInt8) : ByteArray := ⟨(s.data.toList.set k x).toArray⟩
theorem bset_size (s : ByteArray) (k : Nat) (x : UInt8) : (bset s k x).size = s.size := by
  show ((s.data.toList.set k x).toArray).size = _
  rw [List.size_toArray, List.length_set, size_str]
theorem bset_cells (s : ByteArray) (k : Nat) (x : UInt8) : byteCells (bset s k x) = (byteCells s).set k (.int .u8 (x.toNat : Int)) := by
  unfold byteCells bset
  rw [List.map_set]
theorem OwnB.put {w : World} {B n c g k : Nat} {bs : ByteArray} (h : OwnB w B (some ⟨g, 0, none⟩) n c bs) (hk : k < n) (x : UInt8) : OwnB (w.setCell ⟨g, k, none⟩ (.int .u8 (x.toNat : Int))) B (some ⟨g, 0, none⟩) n c (bset bs k x) := by
  obtain ⟨h0, g', cur, fz, ha, hb, hg, hfz, hnc, hcm, hcs, ht⟩ := h
  simp only [Option.some.injEq, Addr.mk.injEq, and_true] at ha
  subst ha
  have h1 : (w.setCell ⟨g, k, none⟩ (.int .u8 (x.toNat : Int))).heap[g]? = some (.cells (cur.setIfInBounds k (.int .u8 (x.toNat : Int))) TU fz) := by simp [World.setCell, Array.getElem?_modify, hg]
  refine ⟨by rw [bset_size]; exact h0, g, _, fz, rfl, hb, h1, by simpa using hfz, hnc, hcm, by simpa using hcs, ?_⟩
  rw [bset_cells, ← ht, Array.toList_setIfInBounds, List.take_set]
theorem OwnB.z' {w : World} {B n c g k : Nat} {bs : ByteArray} (h : OwnB w B (some ⟨g, 0, none⟩) n c bs) (hk : k < n) : w.frozen? ⟨g, k, none⟩ = false := h.z k (by rw [h.1]; exact hk)
theorem OwnB.glt {w : World} {B n c g : Nat} {bs : ByteArray} (h : OwnB w B (some ⟨g, 0, none⟩) n c bs) : g < w.heap.size ∧ B ≤ g := by
  obtain ⟨g', e, h1, h2⟩ := h.ptr
  simp only [Option.some.injEq, Addr.mk.injEq, and_true] at e
  subst e
  exact ⟨h2, h1⟩
/-- The first i bytes turned. -/
def mapI (f : UInt8 → UInt8) (s : ByteArray) (i : Nat) : ByteArray := ⟨((s.data.toList.take i).map f ++ s.data.toList.drop i).toArray⟩
def mapB (f : UInt8 → UInt8) (s : ByteArray) : ByteArray := ⟨(s.data.toList.map f).toArray⟩
theorem mapI_zero (f : UInt8 → UInt8) (s : ByteArray) : mapI f s 0 = s := So.str_ext (by simp [mapI])
theorem mapI_all (f : UInt8 → UInt8) (s : ByteArray) : mapI f s s.size = mapB f s := by
  refine So.str_ext ?_
  unfold mapI mapB
  simp only
  rw [← size_str, List.take_length, List.drop_length, List.append_nil]
theorem mapI_size (f : UInt8 → UInt8) (s : ByteArray) (i : Nat) : (mapI f s i).size = s.size := by
  rw [← size_str, ← size_str]
  unfold mapI
  simp
  omega
theorem mapB_size (f : UInt8 → UInt8) (s : ByteArray) : (mapB f s).size = s.size := by rw [← mapI_all, mapI_size]
theorem mapI_next (f : UInt8 → UInt8) (s : ByteArray) (i : Nat) (h : i < s.size) : bset (mapI f s i) i (f (s[i]'h)) = mapI f s (i + 1) := by
  refine So.str_ext ?_
  have hl : i < s.data.toList.length := by rw [size_str]; exact h
  have ht : ((s.data.toList.take i).map f).length = i := by rw [List.length_map, List.length_take]; omega
  unfold bset mapI
  simp only
  rw [List.take_succ_eq_append_getElem hl, List.map_append, List.drop_eq_getElem_cons hl, List.set_append_right _ _ (by omega), ht, Nat.sub_self, List.set_cons_zero]
  simp
  rfl
theorem mapI_at (f : UInt8 → UInt8) (s : ByteArray) (i : Nat) (h : i < s.size) (h2 : i < (mapI f s i).size) : (mapI f s i)[i]'h2 = s[i]'h := by
  have hl : i < s.data.toList.length := by rw [size_str]; exact h
  have ht : ((s.data.toList.take i).map f).length = i := by rw [List.length_map, List.length_take]; omega
  show ((s.data.toList.take i).map f ++ s.data.toList.drop i)[i]'(by rw [List.length_append, ht, List.length_drop]; omega) = _
  rw [List.getElem_append_right (by omega)]
  simp only [ht, Nat.sub_self, List.getElem_drop, Nat.add_zero]
  rfl
/-- So many bytes. -/
def rep (n : Nat) (x : UInt8) : ByteArray := ⟨(List.replicate n x).toArray⟩
theorem rep_size (n : Nat) (x : UInt8) : (rep n x).size = n := by
  rw [← size_str]
  unfold rep
  simp
theorem rep_map (n : Nat) (x : UInt8) : mapB (fun _ => x) (rep n 0) = rep n x := by
  unfold mapB rep
  simp
theorem made_zeros (n : Nat) : (madeCells (Value.int .u8 0).cells (n * 1)).toList = byteCells (rep n 0) := by
  refine List.ext_getElem ?_ fun i h1 h2 => ?_
  · rw [byteCells_length, rep_size]
    simp [size_madeCells]
  · simp [madeCells, byteCells, rep, Value.cells, Nat.mod_one]
theorem mk_own (W : World) (n : Nat) (hn : n ≤ 100000) : ∃ w', (Instr.makeSlice 69 (.int .i64 (n : Int)) (.int .i64 (n : Int))).run Try.prog W = .ok (.slice (some ⟨W.heap.size, 0, none⟩) n n) w' ∧ Below W.heap.size W w' ∧ OwnB w' W.heap.size (some ⟨W.heap.size, 0, none⟩) n n (rep n 0) := by
  obtain ⟨i0, hi0, hz0, hz1, hz2⟩ := info_parts infoU
  have hr := run_makeSlice (P := Try.prog) W 69 TU i0 (.int .u8 0) underU hi0 hz0 .i64 .i64 (n : Int) (n : Int) (by omega) (Int.le_refl _) (by rw [hz1]; omega) (by rw [hz2]; omega) (by omega)
  rw [Int.toNat_natCast, hz1] at hr
  refine ⟨_, hr, one_below _ _, rep_size n 0, W.heap.size, _, (0, 0), rfl, Nat.le_refl _, heap_alloc_new W _, .inr rfl, Nat.le_refl _, by simp only [maxLen]; omega, by rw [size_madeCells]; omega, ?_⟩
  rw [made_zeros]
  have hl : (byteCells (rep n 0)).length = n := by rw [byteCells_length, rep_size]
  rw [List.take_of_length_le (by omega)]

set_option maxHeartbeats 1000000 in
theorem same_bytes (x : UInt8) (n : Nat) (w : World) (hn : n ≤ 100000) : Calls Try.prog 38 #[.int .u8 (x.toNat : Int), .int .i64 n] w fun e w' => e = .returned (.string (rep n x)) ∧ Below w.heap.size w w' := by
  obtain ⟨w1, hmk, hb1, hown⟩ := mk_own w n hn
  have H := Lib.hid (And.intro hb1 hown)
  clear hb1 hown
  go_enter Try.func38, Try.ntmps38
  go_wp2
  clear hmk
  go_loopw [6] (fun u wr => ∃ k : Nat, k ≤ n ∧ u = .int .i64 k ∧ Hid (OwnB wr w.heap.size (some ⟨w.heap.size, 0, none⟩) n n (mapI (fun _ => x) (rep n 0) k) ∧ Below w.heap.size w wr)) (fun u _ => n - (RowKit.intOf u).toNat)
  case atStart => exact ⟨0, Nat.zero_le _, rfl, by rw [mapI_zero]; exact H.out.2, H.out.1⟩
  case round =>
    obtain ⟨k, hk, rfl, hQ⟩ := hrel
    by_cases hkn : k < n
    · have hc := hQ.out.1.cell k (by rw [mapI_size, rep_size]; exact hkn)
      have z := hQ.out.1.z' hkn
      have hlt : (k : Int) < (n : Int) := by omega
      have hw : IntKind.i64.wrap ((k : Int) + 1) = ((k + 1 : Nat) : Int) := by rw [IntKind.wrap_i64]; omega
      have HN : Hid (OwnB (wr.setCell ⟨w.heap.size, k, none⟩ (.int .u8 (x.toNat : Int))) w.heap.size (some ⟨w.heap.size, 0, none⟩) n n (mapI (fun _ => x) (rep n 0) (k + 1)) ∧ Below w.heap.size w (wr.setCell ⟨w.heap.size, k, none⟩ (.int .u8 (x.toNat : Int)))) := by
        refine ⟨?_, hQ.out.2.setCell (p := ⟨w.heap.size, k, none⟩) (Nat.le_refl _) _⟩
        have h1 := hQ.out.1.put hkn x
        rwa [← mapI_next (fun _ => x) (rep n 0) k (by rw [rep_size]; exact hkn)]
      go_wp2
      go_roundw
      case rel => exact ⟨k + 1, by omega, by go_num, HN⟩
      case measure => simp [RowKit.intOf]; omega
    · obtain rfl : k = n := by omega
      have hall : mapI (fun _ => x) (rep k 0) k = rep k x := by
        have h1 := mapI_all (fun _ => x) (rep k 0)
        rw [rep_size] at h1
        rw [h1, rep_map]
      have hcv := conv_out hQ.out.1
      rw [hall] at hcv
      go_wp2
      go_ret
      exact ⟨rfl, hQ.out.2⟩
end Go.Proofs.Ytkddnknjjdenhaa.Ed
