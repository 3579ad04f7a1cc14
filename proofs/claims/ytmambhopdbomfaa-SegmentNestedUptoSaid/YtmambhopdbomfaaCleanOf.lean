/- Texts without a byte. -/
import Derived.Test.YtmambhopdbomfaaSeg8
namespace Go.Proofs.Ytmambhopdbomfaa
open Go.RowKit

/-- those without the sign -/
def cleanOf (c : UInt8) (T : List (List UInt8)) : List (List UInt8) := T.filter fun x => !x.contains c
theorem cleanOf_no (c : UInt8) (T : List (List UInt8)) (k : Nat) (hk : k < T.length) (h : (T.getD k []).contains c = false) : cleanOf c (T.take (k + 1)) = cleanOf c (T.take k) ++ [T.getD k []] := by
  unfold cleanOf
  rw [take_getD T k hk, List.filter_append]
  simp only [List.filter_cons, List.filter_nil, h, Bool.not_false, if_true]
theorem cleanOf_yes (c : UInt8) (T : List (List UInt8)) (k : Nat) (hk : k < T.length) (h : (T.getD k []).contains c = true) : cleanOf c (T.take (k + 1)) = cleanOf c (T.take k) := by
  unfold cleanOf
  rw [take_getD T k hk, List.filter_append]
  simp only [List.filter_cons, List.filter_nil, h, Bool.not_true, if_false, List.append_nil, Bool.false_eq_true]
theorem lens_filter (f : List UInt8 → Bool) : ∀ T : List (List UInt8), Lib.lens (T.filter f) ≤ Lib.lens T
  | [] => by simp [Lib.lens]
  | x :: r => by
    have := lens_filter f r
    simp only [Lib.lens] at this ⊢
    rw [List.filter_cons]
    split
    · simp only [List.map_cons, List.sum_cons]; omega
    · simp only [List.map_cons, List.sum_cons]; omega
theorem take_snocY (y : ByteArray) (j : Nat) (hj : j < y.size) : y.data.toList.take (j + 1) = y.data.toList.take j ++ [y[j]] := by
  rw [List.take_succ_eq_append_getElem (by simpa using hj)]
  rfl
theorem contains_take (c : UInt8) (y : ByteArray) (j : Nat) (hj : j < y.size) : (y.data.toList.take (j + 1)).contains c = ((y.data.toList.take j).contains c || decide (y[j] = c)) := by
  rw [take_snocY y j hj, List.contains_append]
  congr 1
  by_cases h : y[j] = c
  · simp [h]
  · have h2 : ¬ c = y[j] := fun e => h e.symm
    simp [h, h2]
theorem cleanOf_bulk (c : UInt8) (T : List (List UInt8)) : Lib.lens (cleanOf c T) + (cleanOf c T).length ≤ Lib.lens T + T.length := by
  have hfl := lens_filter (fun x => !x.contains c) T
  have hfn := List.length_filter_le (fun x => !x.contains c) T
  unfold cleanOf
  omega
theorem cleanOf_mem (c : UInt8) (T : List (List UInt8)) : ∀ x ∈ cleanOf c T, c ∉ x := fun x hx => by
  have := (List.mem_filter.1 hx).2
  simpa using this
theorem cleanOf_len (c : UInt8) (T : List (List UInt8)) (k : Nat) : (cleanOf c (T.take k)).length ≤ k := by
  have h1 := List.length_filter_le (fun x => !x.contains c) (T.take k)
  rw [List.length_take] at h1
  exact Nat.le_trans h1 (Nat.min_le_left _ _)
end Go.Proofs.Ytmambhopdbomfaa
