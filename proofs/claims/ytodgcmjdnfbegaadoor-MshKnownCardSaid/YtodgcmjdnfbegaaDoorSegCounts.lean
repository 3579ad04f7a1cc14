/- SegmentCounts, walked. -/
import Derived.Test.YtodgcmjdnfbegaaDoorSegAlive
import Derived.LoopTactic
namespace Go.Proofs.YtodgcmjdnfbegaaDoor
open Go.RowKit

/-- k signs behind -/
def bars (s : ByteArray) (k : Nat) : ByteArray := txt (s.data.toList ++ List.replicate k 124)
theorem bars_zero (s : ByteArray) : bars s 0 = s := by unfold bars; simp
theorem bars_size (s : ByteArray) (k : Nat) : (bars s k).size = s.size + k := by
  unfold bars; rw [txt_size']; simp
theorem bars_succ (s : ByteArray) (k : Nat) : bars s k ++ ⟨#[124]⟩ = bars s (k + 1) := by
  unfold bars
  rw [txt_append, List.replicate_succ', List.append_assoc]
theorem bars_list (s : ByteArray) (k : Nat) : (bars s k).data.toList = s.data.toList ++ List.replicate k 124 := by unfold bars; simp
theorem ex_list (s : ByteArray) (i j : Nat) : (s.extract i j).data.toList = (s.data.toList.drop i).take (j - i) := by
  rw [ByteArray.data_extract, Array.toList_extract, List.extract_eq_take_drop]
theorem ba_ext {a b : ByteArray} (h : a.data.toList = b.data.toList) : a = b := ByteArray.ext (Array.toList_inj.1 h)
theorem name_bars (s : ByteArray) (k : Nat) (h : 3 ≤ s.size) : nameS (bars s k) = nameS s := by
  have hl : s.data.toList.length = s.size := by simp
  unfold nameS
  rw [bars_size, show min (s.size + k) 3 = 3 by omega, show min s.size 3 = 3 by omega]
  apply ba_ext
  rw [ex_list, ex_list, bars_list, List.drop_zero, List.drop_zero, List.take_append_of_le_length (by omega)]
theorem cut_bars (l : List UInt8) : ∀ k, cutAt 124 (l ++ List.replicate k 124) = cutAt 124 l ++ List.replicate k []
  | 0 => by simp
  | k + 1 => by rw [List.replicate_succ', ← List.append_assoc, cutAt_snoc_eq, cut_bars l k, List.append_assoc, ← List.replicate_succ']
theorem fields_bars (s : ByteArray) (k : Nat) (h : 3 ≤ s.size) (hn : ¬ (nameS s = mshB ∧ fieldsD s 124 = [])) : fieldsD (bars s k) 124 = fieldsD s 124 ++ List.replicate k [] := by
  have hl : s.data.toList.length = s.size := by simp
  by_cases hm : nameS s = mshB
  · have hb : ∃ r, behD s 124 = some r := by
      cases hb : behD s 124 with
      | some r => exact ⟨r, rfl⟩
      | none => exact absurd ⟨hm, by unfold fieldsD; rw [if_pos hm, hb]⟩ hn
    obtain ⟨r, hb⟩ := hb
    have h4 : 3 < s.size ∧ s.data.toList.getD 3 0 = 124 := by
      unfold behD at hb
      split at hb
      · assumption
      · cases hb
    have hr : r = s.extract 4 s.size := by
      unfold behD at hb
      rw [if_pos h4] at hb
      injection hb with hb
      exact hb.symm
    have hb2 : behD (bars s k) 124 = some (bars r k) := by
      unfold behD
      rw [bars_size, bars_list, if_pos ⟨by omega, by rw [List.getD_eq_getElem?_getD, List.getElem?_append_left (by omega), ← List.getD_eq_getElem?_getD]; exact h4.2⟩]
      congr 1
      apply ba_ext
      rw [ex_list, bars_list, bars_list, hr, ex_list, List.drop_append_of_le_length (by omega), List.take_of_length_le, List.take_of_length_le]
      · rw [List.length_drop]; omega
      · rw [List.length_append, List.length_drop, List.length_replicate]; omega
    unfold fieldsD
    rw [name_bars s k h, if_pos hm, if_pos hm, hb, hb2]
    show [124] :: cutAt 124 (bars r k).data.toList = ([124] :: cutAt 124 r.data.toList) ++ _
    rw [bars_list, cut_bars]
    rfl
  · unfold fieldsD
    rw [name_bars s k h, if_neg hm, if_neg hm, bars_list, cut_bars, List.tail_append_of_ne_nil (cutAt_ne _ _)]
theorem nth_front (T : List (List UInt8)) (k i : Nat) (h1 : 1 ≤ i) (h2 : i ≤ T.length) : nthD (T ++ List.replicate k []) (i : Int) = nthD T (i : Int) := by
  unfold nthD
  rw [if_pos (by omega), if_pos (by omega), List.getElem?_append_left (by omega)]
theorem nth_in (T : List (List UInt8)) (i : Nat) (h1 : 1 ≤ i) (h2 : i ≤ T.length) : ∃ x, nthD T (i : Int) = some x := by
  unfold nthD
  rw [if_pos (by omega)]
  exact ⟨_, List.getElem?_eq_getElem (by omega)⟩
theorem nth_back (T : List (List UInt8)) (k i : Nat) (h1 : T.length < i) (h2 : i ≤ T.length + k) : nthD (T ++ List.replicate k []) (i : Int) = some [] := by
  unfold nthD
  rw [if_pos (by omega), List.getElem?_append_right (by omega), List.getElem?_replicate, if_pos (by omega)]

/-- signs in a block of their own -/
def BoxS (d : Sgn) (g : Nat) (w : World) : Prop := w.heap[g]? = some (.cells #[u8 d.a, u8 d.b, u8 d.c, u8 d.d, u8 d.e] 25)
theorem BoxS.cells {d : Sgn} {g : Nat} {w : World} (h : BoxS d g w) : w.cell? ⟨g, 0, none⟩ = some (u8 d.a) ∧ w.cell? ⟨g, 1, none⟩ = some (u8 d.b) ∧ w.cell? ⟨g, 2, none⟩ = some (u8 d.c) ∧ w.cell? ⟨g, 3, none⟩ = some (u8 d.d) ∧ w.cell? ⟨g, 4, none⟩ = some (u8 d.e) :=
  ⟨cell_of_row w g 0 _ _ _ h, cell_of_row w g 1 _ _ _ h, cell_of_row w g 2 _ _ _ h, cell_of_row w g 3 _ _ _ h, cell_of_row w g 4 _ _ _ h⟩
theorem BoxS.below {d : Sgn} {g : Nat} {w w' : World} (h : BoxS d g w) (hb : Below w.heap.size w w') : BoxS d g w' := (hb.block g (Array.getElem?_eq_some_iff.1 h).1).trans h

end Go.Proofs.YtodgcmjdnfbegaaDoor
