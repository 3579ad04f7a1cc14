/- Layer 8: names, fields and their parts, walked. -/
import Derived.Test.YtodgcmjdnfbegaaDoorSeg3
import Derived.Test.YtodgcmjdnfbegaaDoorSgn
import Derived.Test.YtodgcmjdnfbegaaDoorRefCut
namespace Go.Proofs.YtodgcmjdnfbegaaDoor
open Go.RowKit

abbrev mshB : ByteArray := ⟨#[77, 83, 72]⟩
/-- a segment's name -/
def nameS (s : ByteArray) : ByteArray := s.extract 0 (min s.size 3)
/-- what stands behind the head -/
def behD (s : ByteArray) (c : UInt8) : Option ByteArray := if 3 < s.size ∧ s.data.toList.getD 3 0 = c then some (s.extract 4 s.size) else none
/-- the fields -/
def fieldsD (s : ByteArray) (c : UInt8) : List (List UInt8) :=
  if nameS s = mshB then match behD s c with
    | none => []
    | some r => [c] :: cutAt c r.data.toList
  else (cutAt c s.data.toList).tail

theorem strEq (a b : ByteArray) : (a.toList == b.toList) = decide (a = b) := by
  rw [Go.ByteArray.toList_eq, Go.ByteArray.toList_eq]
  by_cases h : a = b
  · subst h; simp
  · have h2 : a.data.toList ≠ b.data.toList := fun e => h (ByteArray.ext (Array.toList_inj.1 e))
    rw [beq_eq_false_iff_ne.2 h2, decide_eq_false h]
theorem strEq_t {a b : ByteArray} (h : a = b) : (a.toList == b.toList) = true := by rw [strEq]; simpa using h
theorem strEq_f {a b : ByteArray} (h : a ≠ b) : (a.toList == b.toList) = false := by rw [strEq]; simpa using h

theorem nameS_ (s : ByteArray) (w : World) : Calls Tryd.prog 39 #[.string s] w fun e w' => e = .returned (.string (nameS s)) ∧ w' = w := by
  go_enter Tryd.func39, Tryd.ntmps39
  go_wp2_with (fail)
  go_ret
  exact ⟨by unfold nameS; rw [show (min (s.size : Int) 3).toNat = min s.size 3 by omega]; rfl, rfl⟩

theorem behind_ (s : ByteArray) (c : UInt8) (w : World) : Calls Tryd.prog 41 #[.string s, u8 c] w fun e w' => e = .returned (.tuple #[.string ((behD s c).getD ⟨#[]⟩), .bool (behD s c).isSome]) ∧ w' = w := by
  by_cases h3 : 3 < s.size
  · have d1 : decide ((s.size : Int) ≤ 3) = false := by simp; omega
    have hix : s.data[3]'h3 = s.data.toList.getD 3 0 := by
      rw [List.getD_eq_getElem?_getD, List.getElem?_eq_getElem (by simpa using h3)]; rfl
    by_cases hc : s.data.toList.getD 3 0 = c
    · have d2 : ((((s.data[3]'h3).toNat : Nat) : Int) != ((c.toNat : Nat) : Int)) = false := by rw [hix, hc]; simp
      have hb : behD s c = some (s.extract 4 s.size) := if_pos ⟨h3, hc⟩
      have h4 : (4 : Int) ≤ s.size := by omega
      rw [hb]
      have d3 : ((((s[3]'h3).toNat : Nat) : Int) != ((c.toNat : Nat) : Int)) = _ := d2
      clear hb hix
      go_enter Tryd.func41, Tryd.ntmps41
      go_wp2_with (fail)
      go_ret2
      exact ⟨rfl, rfl⟩
    · have d2 : ((((s.data[3]'h3).toNat : Nat) : Int) != ((c.toNat : Nat) : Int)) = true := by
        rw [hix, bne_iff_ne]; intro e; exact hc (UInt8.toNat_inj.1 (by omega))
      have hb : behD s c = none := if_neg (fun h => hc h.2)
      rw [hb]
      have d3 : ((((s[3]'h3).toNat : Nat) : Int) != ((c.toNat : Nat) : Int)) = _ := d2
      clear hb hix
      go_enter Tryd.func41, Tryd.ntmps41
      go_wp2_with (fail)
      go_ret2
      exact ⟨rfl, rfl⟩
  · have d1 : decide ((s.size : Int) ≤ 3) = true := by simp; omega
    have hb : behD s c = none := if_neg (fun h => h3 h.1)
    rw [hb]
    clear hb
    go_enter Tryd.func41, Tryd.ntmps41
    go_wp2_with (fail)
    go_ret2
    exact ⟨rfl, rfl⟩

theorem size_nameS (s : ByteArray) : (nameS s).size ≤ 3 := by unfold nameS; rw [ByteArray.size_extract]; omega

theorem name_t {s : ByteArray} (h : nameS s = mshB) : ((nameS s).toList == [77, 83, 72]) = true := by
  rw [h, Go.ByteArray.toList_eq]; rfl
theorem name_f {s : ByteArray} (h : nameS s ≠ mshB) : ((nameS s).toList == [77, 83, 72]) = false := by
  rw [Go.ByteArray.toList_eq, beq_eq_false_iff_ne]
  exact fun e => h (ByteArray.ext (Array.toList_inj.1 e))
theorem cut_le (c : UInt8) (s : ByteArray) : (cutAt c s.data.toList).length ≤ s.size + 1 := by
  rw [cutAt_length]
  have := List.count_le_length (a := c) (l := s.data.toList)
  have h2 : s.data.toList.length = s.size := by simp
  omega
theorem behD_size {s r : ByteArray} {c : UInt8} (h : behD s c = some r) : r.size + 4 = s.size := by
  unfold behD at h
  split at h
  · injection h with h
    rw [← h, ByteArray.size_extract]; omega
  · cases h
abbrev boxSgn (d : Sgn) (w : World) : World := w.alloc (.cells #[u8 d.a, u8 d.b, u8 d.c, u8 d.d, u8 d.e] 25)
theorem boxSgn_cells (d : Sgn) (w w2 : World) (h : Below (w.heap.size + 1) (boxSgn d w) w2) : w2.cell? ⟨w.heap.size, 0, none⟩ = some (u8 d.a) ∧ w2.cell? ⟨w.heap.size, 1, none⟩ = some (u8 d.b) ∧ w2.cell? ⟨w.heap.size, 2, none⟩ = some (u8 d.c) := by
  have hr : w2.heap[w.heap.size]? = some (.cells #[u8 d.a, u8 d.b, u8 d.c, u8 d.d, u8 d.e] 25) := (h.block _ (by omega)).trans (heap_alloc_new w _)
  exact ⟨cell_of_row w2 _ 0 _ _ _ hr, cell_of_row w2 _ 1 _ _ _ hr, cell_of_row w2 _ 2 _ _ _ hr⟩
theorem boxSgn_below (d : Sgn) (w : World) : Below w.heap.size w (boxSgn d w) := (Below.refl _ w).alloc (Nat.le_refl _) _
theorem boxSgn_size (d : Sgn) (w : World) : (boxSgn d w).heap.size = w.heap.size + 1 := by simp

end Go.Proofs.YtodgcmjdnfbegaaDoor
