/- Layer 8: messages split and joined, as lists of bytes. -/
import Derived.Test.YtmambhopdbomfaaSeg8
namespace Go.Proofs.Ytmambhopdbomfaa
open Go.RowKit Go.Lib

theorem cut_joinD : ∀ T : List (List UInt8), (∀ x ∈ T, (13 : UInt8) ∉ x) → cutAt 13 (joinD T) = T ++ [[]]
  | [], _ => rfl
  | x :: r, h => by
    have ih := cut_joinD r (fun z hz => h z (List.mem_cons_of_mem _ hz))
    have e : joinD (x :: r) = x ++ 13 :: joinD r := by simp [joinD]
    rw [e, cutAt_clean 13 _ x (h x (List.mem_cons_self ..)), ih]
    rfl
theorem split_joinD (T : List (List UInt8)) (h : ∀ x ∈ T, (13 : UInt8) ∉ x) : splitD (joinD T) = T := by
  unfold splitD
  rw [cut_joinD T h]
  simp
theorem join_snoc13 : ∀ (D : List (List UInt8)) (x : List UInt8), join (D ++ [x]) [13] = joinD D ++ x
  | [], x => by simp [join_one, joinD]
  | [a], x => by rw [List.cons_append, List.nil_append, join_two, join_one]; simp [joinD]
  | a :: b :: r, x => by
    have ih := join_snoc13 (b :: r) x
    rw [List.cons_append, List.cons_append, join_two, ← List.cons_append, ih]
    simp [joinD]
/-- does a message end as one does, or is it empty -/
def endsD (l : List UInt8) : Bool := l.isEmpty || l.getLastD 0 == 13
theorem joinD_last (D : List (List UInt8)) : joinD D = [] ∨ (joinD D).getLastD 0 = 13 := by
  rcases List.eq_nil_or_concat D with rfl | ⟨E, a, rfl⟩
  · exact .inl rfl
  · right
    rw [List.concat_eq_append, joinD_snoc]
    simp [List.getLastD_eq_getLast?]
theorem join_splitD (l : List UInt8) : joinD (splitD l) = if l = [] ∨ l.getLastD 0 = 13 then l else l ++ [13] := by
  obtain ⟨D, x, hC⟩ : ∃ D x, cutAt 13 l = D ++ [x] := by
    rcases List.eq_nil_or_concat (cutAt 13 l) with h | ⟨E, a, h⟩
    · exact absurd h (cutAt_ne 13 l)
    · exact ⟨E, a, by rw [h]; simp⟩
  have hl : l = joinD D ++ x := by rw [← cutAt_join 13 l, hC, join_snoc13]
  have hx : (13 : UInt8) ∉ x := cutAt_clean_all 13 l x (by rw [hC]; simp)
  unfold splitD
  rw [hC]
  by_cases h0 : x = []
  · subst h0
    rw [if_pos (by simp), List.dropLast_concat]
    rw [List.append_nil] at hl
    rw [if_pos (by rw [hl]; exact joinD_last D)]
    exact hl.symm
  · rw [if_neg (by simpa using h0), joinD_snoc, ← hl, if_neg]
    rintro (h | h)
    · rw [hl] at h
      exact h0 (List.append_eq_nil_iff.1 h).2
    · rcases List.eq_nil_or_concat x with h1 | ⟨E, a, h1⟩
      · exact h0 h1
      · apply hx
        rw [hl, h1, List.concat_eq_append, ← List.append_assoc] at h
        simp [List.getLastD_eq_getLast?] at h
        rw [h1, ← h]; simp
end Go.Proofs.Ytmambhopdbomfaa
