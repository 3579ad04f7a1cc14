/- Layer 13: two rows of records behind each other, as plain lists. -/
import Derived.Test.YthblbmbefhlbjaaScanMath
namespace Go.Proofs.Ythblbmbefhlbjaa
open Go.RowKit

theorem get_more {a : List UInt8} (h : getErr a = 0) (b : List UInt8) : getErr (a ++ b) = 0 ∧ getGet (a ++ b) = getGet a ∧ getLen (a ++ b) = getLen a := by
  have hh := h
  unfold getErr at h
  by_cases h8 : a.length < 8
  · rw [if_pos h8] at h; omega
  rw [if_neg h8] at h
  by_cases ho : okLen (beNum (a.take 4)) = false
  · rw [if_pos ho] at h; omega
  rw [if_neg ho] at h
  by_cases hk : a.length - 8 < beNum (a.take 4)
  · rw [if_pos hk] at h; omega
  rw [if_neg hk] at h
  have e4 : (a ++ b).take 4 = a.take 4 := List.take_append_of_le_length (by omega)
  have e8 : ((a ++ b).drop 4).take 4 = (a.drop 4).take 4 := by
    rw [List.drop_append_of_le_length (by omega), List.take_append_of_le_length (by rw [List.length_drop]; omega)]
  have er : ((a ++ b).drop 8).take (beNum (a.take 4)) = (a.drop 8).take (beNum (a.take 4)) := by
    rw [List.drop_append_of_le_length (by omega), List.take_append_of_le_length (by rw [List.length_drop]; omega)]
  have e0 : getErr (a ++ b) = 0 := by
    unfold getErr
    rw [e4, e8, er, if_neg (by rw [List.length_append]; omega), if_neg ho, if_neg (by rw [List.length_append]; omega)]
    exact h
  refine ⟨e0, ?_, ?_⟩
  · unfold getGet
    rw [if_pos e0, if_pos hh, e4, er]
  · unfold getLen
    rw [if_pos e0, if_pos hh, e4]
theorem scan_ind {P : List UInt8 → Prop} (h0 : P []) (h1 : ∀ l, 0 < l.length → getErr l ≠ 0 → P l) (h2 : ∀ l, getErr l = 0 → P (l.drop (getLen l)) → P l) (l : List UInt8) : P l := by
  have key : ∀ (n : Nat) (l : List UInt8), l.length ≤ n → P l := fun n => by
    induction n with
    | zero => intro l hl; have : l = [] := List.eq_nil_of_length_eq_zero (by omega); rw [this]; exact h0
    | succ n ih =>
      intro l hl
      by_cases hz : l.length = 0
      · have : l = [] := List.eq_nil_of_length_eq_zero hz
        rw [this]; exact h0
      by_cases he : getErr l = 0
      · have hg := getErr_len he
        exact h2 l he (ih _ (by rw [List.length_drop]; omega))
      · exact h1 l (by omega) he
  exact key l.length l (Nat.le_refl _)
theorem scan_done (l : List UInt8) : (scan l).2.2 = 0 → (scan l).2.1 = l.length := by
  refine scan_ind (P := fun l => (scan l).2.2 = 0 → (scan l).2.1 = l.length) (fun _ => rfl) (fun l h0 he h => ?_) (fun l he ih h => ?_) l
  · rw [scan_err h0 he] at h; exact absurd h he
  · have hg := getErr_len he
    rw [scan_ok he] at h ⊢
    have := ih h
    rw [List.length_drop] at this
    show getLen l + _ = _
    omega
theorem scan_stop (l : List UInt8) : (scan l).2.2 ≠ 0 → (scan l).2.1 < l.length := by
  refine scan_ind (P := fun l => (scan l).2.2 ≠ 0 → (scan l).2.1 < l.length) (fun h => absurd rfl h) (fun l h0 he _ => ?_) (fun l he ih h => ?_) l
  · rw [scan_err h0 he]; exact h0
  · have hg := getErr_len he
    rw [scan_ok he] at h ⊢
    have := ih h
    rw [List.length_drop] at this
    show getLen l + _ < _
    omega
theorem scan_append (b : List UInt8) (l : List UInt8) : (scan l).2.2 = 0 → scan (l ++ b) = ((scan l).1 ++ (scan b).1, (scan l).2.1 + (scan b).2.1, (scan b).2.2) := by
  refine scan_ind (P := fun l => (scan l).2.2 = 0 → scan (l ++ b) = ((scan l).1 ++ (scan b).1, (scan l).2.1 + (scan b).2.1, (scan b).2.2)) (fun _ => by simp [scan_nil]) (fun l h0 he h => ?_) (fun l he ih h => ?_) l
  · rw [scan_err h0 he] at h; exact absurd h he
  · have hg := getErr_len he
    obtain ⟨m1, m2, m3⟩ := get_more he b
    rw [scan_ok he] at h
    have ih := ih h
    have e := scan_ok m1
    rw [m2, m3, List.drop_append_of_le_length (by omega), ih] at e
    rw [e, scan_ok he]
    simp [Nat.add_assoc]
theorem scan_count (l : List UInt8) : 9 * (scan l).1.length ≤ l.length := by
  refine scan_ind (P := fun l => 9 * (scan l).1.length ≤ l.length) (by simp [scan_nil]) (fun l h0 he => ?_) (fun l he ih => ?_) l
  · rw [scan_err h0 he]; simp
  · have hg := getErr_len he
    rw [scan_ok he]
    rw [List.length_drop] at ih
    simp only [List.length_cons]
    omega
end Go.Proofs.Ythblbmbefhlbjaa
