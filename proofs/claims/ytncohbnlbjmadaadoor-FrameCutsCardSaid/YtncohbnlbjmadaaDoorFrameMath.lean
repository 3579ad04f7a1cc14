/- Plain facts on frames. -/
import Derived.Test.YtncohbnlbjmadaaDoorFrame5
namespace Go.Proofs.YtncohbnlbjmadaaDoor
open Go.RowKit

theorem wrap_isFrame {l : List UInt8} (h : good l = true) : isFrame (11 :: (l ++ [28, 13])) = true := by
  have h1 : (11 :: (l ++ [28, 13]) : List UInt8).length = l.length + 3 := by simp
  have h2 : (11 :: (l ++ [28, 13]) : List UInt8)[l.length + 1]? = some 28 := by
    rw [List.getElem?_cons_succ, List.getElem?_append_right (Nat.le_refl _)]; simp
  have h3 : (11 :: (l ++ [28, 13]) : List UInt8)[l.length + 2]? = some 13 := by
    rw [List.getElem?_cons_succ, List.getElem?_append_right (by omega)]; simp
  have h4 : ((11 :: (l ++ [28, 13]) : List UInt8).take (l.length + 1)).drop 1 = l := by simp
  unfold isFrame
  rw [h1, show l.length + 3 - 2 = l.length + 1 from rfl, show l.length + 3 - 1 = l.length + 2 from rfl, h2, h3, h4, h]
  simp
theorem wrap_get {l : List UInt8} (h : good l = true) : unwrapErr (11 :: (l ++ [28, 13])) = 0 ∧ unwrapGet (11 :: (l ++ [28, 13])) = l := by
  obtain ⟨e1, e2⟩ := unwrap_is (l := 11 :: (l ++ [28, 13])) (by simp) (wrap_isFrame h)
  refine ⟨e1, e2.trans ?_⟩
  simp
theorem wrap_not_good {l : List UInt8} : good (11 :: (l ++ [28, 13])) = false := not_good_start (by simp)

theorem frame_parts {l : List UInt8} (h : isFrame l = true) : 3 ≤ l.length ∧ good ((l.take (l.length - 2)).drop 1) = true ∧ 11 :: ((l.take (l.length - 2)).drop 1 ++ [28, 13]) = l := by
  unfold isFrame at h
  simp only [Bool.and_eq_true, decide_eq_true_eq, beq_iff_eq] at h
  obtain ⟨⟨⟨⟨h1, h2⟩, h3⟩, h4⟩, h5⟩ := h
  refine ⟨h1, h5, ?_⟩
  apply List.ext_getElem? 
  intro i
  rcases i with _ | i
  · simpa using h2.symm
  · rw [List.getElem?_cons_succ]
    have hl : ((l.take (l.length - 2)).drop 1).length = l.length - 3 := by simp; omega
    rcases Nat.lt_or_ge i (l.length - 3) with hi | hi
    · rw [List.getElem?_append_left (by omega), List.getElem?_drop, List.getElem?_take, if_pos (by omega), Nat.add_comm]
    · rw [List.getElem?_append_right (by omega), hl]
      by_cases e1 : i = l.length - 3
      · rw [e1, Nat.sub_self, show l.length - 3 + 1 = l.length - 2 by omega, h3]; rfl
      · by_cases e2 : i = l.length - 2
        · rw [e2, show l.length - 2 - (l.length - 3) = 1 by omega, show l.length - 2 + 1 = l.length - 1 by omega, h4]; rfl
        · rw [List.getElem?_eq_none (by simp; omega), List.getElem?_eq_none (by omega)]
theorem frame_not_good {l : List UInt8} (h : isFrame l = true) : good l = false := by
  obtain ⟨_, _, e⟩ := frame_parts h
  rw [← e]
  exact wrap_not_good
end Go.Proofs.YtncohbnlbjmadaaDoor
