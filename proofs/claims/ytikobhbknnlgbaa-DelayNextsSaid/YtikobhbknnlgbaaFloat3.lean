/- Plain facts on floats of 64 bits: what is no number, infinity, noughts, in products. -/
import Derived.Test.YtikobhbknnlgbaaFloat2
import Derived.Test.YtikobhbknnlgbaaDelay
import Derived.Laws.Bits64b
namespace Go.Proofs.Ytikobhbknnlgbaa
open Ieee

def nanF (P : Nat) : Nat := (9218868437227405312 ||| (P &&& 9227875636482146303)) ||| 1

theorem nanF_exp (P : Nat) : nanF P &&& 9218868437227405312 = 9218868437227405312 := by
  unfold nanF
  apply Nat.eq_of_testBit_eq
  intro i
  simp only [Nat.testBit_and, Nat.testBit_or]
  cases Nat.testBit 9218868437227405312 i <;> simp
theorem nanF_odd (P : Nat) : (nanF P).testBit 0 = true := by
  unfold nanF
  rw [Nat.testBit_or]
  simp
theorem nanF_fraction (P : Nat) : nanF P &&& 4503599627370495 ≠ 0 := by
  intro h
  have h2 : (nanF P &&& 4503599627370495).testBit 0 = true := by
    rw [Nat.testBit_and, nanF_odd]
    decide
  rw [h] at h2
  simp at h2
theorem nanF_lt (P : Nat) (hP : P < 2 ^ 64) : nanF P < 2 ^ 64 := by
  unfold nanF
  exact Nat.or_lt_two_pow (Nat.or_lt_two_pow (by decide) (Nat.lt_of_le_of_lt Nat.and_le_left hP)) (by decide)
theorem nanF_read (P : Nat) : ∃ s f, double.read (nanF P) = .nan s f := by
  have e4 : double.binade = 2 ^ 52 := by decide
  have e5 : double.infRung = 2047 * 2 ^ 52 := by decide
  have e6 : double.signWeight = 2 ^ 63 := by decide
  have hr : 9218868437227405312 ≤ nanF P % 2 ^ 63 := by
    unfold nanF
    rw [Nat.or_mod_two_pow, Nat.or_mod_two_pow]
    exact Nat.le_trans (Nat.le_trans (by decide) Nat.left_le_or) Nat.left_le_or
  have ho : nanF P % 2 = 1 := by
    have h := nanF_odd P
    rw [Nat.testBit_zero] at h
    simpa using h
  unfold Format.read
  simp only [e4, e5, e6]
  generalize nanF P = X at *
  rw [if_neg (by omega), if_neg (by omega), if_neg (by omega)]
  exact ⟨_, _, rfl⟩

theorem mul_nanF (d P : Nat) : floatBits .mul .f64 d (nanF P) = none := by
  obtain ⟨s, f, h⟩ := nanF_read P
  show double.mul _ _ = _
  unfold Format.mul
  rw [h]
  cases double.read d <;> rfl

theorem goD_stop {F cf d : Nat} {cap : Int} (h : lt64 d cf = false) (k : Nat) : goD F cf cap k d = cap := by cases k <;> simp [goD, h]

theorem goD_nan (P C k d : Nat) : goD (nanF P) (f64 (C : Int)) (C : Int) (k + 1) d = C := by
  unfold goD
  rw [mul_nanF]
  simp
theorem read_inf : double.read 9218868437227405312 = .infinity false := by decide
theorem lt_inf (y : Nat) : lt64 9218868437227405312 y = false := by
  unfold lt64
  simp only [FloatKind.format, Format.order]
  rw [read_inf]
  rcases double.read y with ⟨s, m, i⟩ | s | ⟨s, f⟩
  · rfl
  · cases s <;> rfl
  · rfl
theorem goD_inf (C b k : Nat) (hb : b < 2 ^ 53) : goD 9218868437227405312 (f64 (C : Int)) (C : Int) (k + 1) (f64 (b : Int)) = C := by
  obtain ⟨s, hs⟩ := read_nat b hb
  unfold goD
  have hm : floatBits .mul .f64 (f64 (b : Int)) 9218868437227405312 = if b * 2 ^ s = 0 then none else some 9218868437227405312 := by
    show double.mul _ _ = _
    unfold Format.mul
    rw [hs, read_inf]
    simp only [Datum.product]
    split
    · rfl
    · rfl
  rw [hm]
  split
  · split
    · rename_i hh
      split at hh
      · cases hh
      · cases hh
        exact goD_stop (lt_inf _) k
    · rfl
  · rfl
theorem read_minus : double.read 9223372036854775808 = .number true 0 (-1074) := by decide
theorem mul_zeros (a b : Nat) (ha : a = 0 ∨ a = 9223372036854775808) (hb : b = 0 ∨ b = 9223372036854775808) : ∃ r, floatBits .mul .f64 a b = some r ∧ (r = 0 ∨ r = 9223372036854775808) := by
  rcases ha with rfl | rfl <;> rcases hb with rfl | rfl
  · exact ⟨_, by decide, .inl rfl⟩
  · exact ⟨_, by decide, .inr rfl⟩
  · exact ⟨_, by decide, .inr rfl⟩
  · exact ⟨_, by decide, .inl rfl⟩
theorem mul_zero_r (a b : Nat) (ha : a < 2 ^ 53) (hb : b = 0 ∨ b = 9223372036854775808) : ∃ r, floatBits .mul .f64 (f64 (a : Int)) b = some r ∧ (r = 0 ∨ r = 9223372036854775808) := by
  obtain ⟨s, hs⟩ := read_nat a ha
  rcases hb with rfl | rfl
  · refine ⟨0, ?_, .inl rfl⟩
    show double.mul _ _ = _
    unfold Format.mul
    rw [hs, read_zero]
    simp only [Datum.product, Option.map_some, Format.write, Nat.mul_zero]
    unfold Format.nearest
    rw [if_pos rfl]
    rfl
  · refine ⟨9223372036854775808, ?_, .inr rfl⟩
    show double.mul _ _ = _
    unfold Format.mul
    rw [hs, read_minus]
    simp only [Datum.product, Option.map_some, Format.write, Nat.mul_zero]
    unfold Format.nearest
    rw [if_pos rfl]
    rfl
theorem f64_zero : f64 ((0 : Nat) : Int) = 0 := by rw [nearest_nat, nearest_zero]
theorem lt_minus (y : Nat) : lt64 9223372036854775808 y = lt64 0 y := by
  unfold lt64
  simp only [FloatKind.format, Format.order]
  rw [read_minus, read_zero]
  rcases double.read y with ⟨s, m, i⟩ | s | ⟨s, f⟩
  · simp only [Datum.order, signed, Nat.zero_shiftLeft]
    rfl
  · rfl
  · rfl
theorem goD_zeros (F C : Nat) (hF : F = 0 ∨ F = 9223372036854775808) (h0 : 0 < C) (hC : C < 2 ^ 53) : ∀ (k d : Nat), d = 0 ∨ d = 9223372036854775808 → goD F (f64 (C : Int)) (C : Int) k d = 0
  | k, d, hd => by
    have hlt : lt64 d (f64 (C : Int)) = true := by
      have h := lt_nat 0 C (by omega) hC
      rw [f64_zero, decide_eq_true h0] at h
      rcases hd with rfl | rfl
      · exact h
      · rw [lt_minus]; exact h
    cases k with
    | zero =>
      unfold goD
      rw [hlt]
      rcases hd with rfl | rfl
      · have hc := cut_nat 0 (by omega)
        rw [f64_zero] at hc
        rw [hc]
        simp
      · have hc : floatToIntVal .f64 9223372036854775808 .i64 = some 0 := by decide
        rw [hc]
        simp
    | succ k =>
      unfold goD
      rw [hlt]
      obtain ⟨r, hr, hz⟩ := mul_zeros d F hd hF
      rw [hr]
      simp only [if_true]
      exact goD_zeros F C hF h0 hC k r hz
theorem goD_zero (F b C k : Nat) (hF : F = 0 ∨ F = 9223372036854775808) (hb : b < 2 ^ 53) (hC : C < 2 ^ 53) : goD F (f64 (C : Int)) (C : Int) (k + 1) (f64 (b : Int)) = if b < C then 0 else (C : Int) := by
  by_cases h : b < C
  · unfold goD
    rw [lt_nat b C hb hC, decide_eq_true h, if_pos h]
    obtain ⟨r, hr, hz⟩ := mul_zero_r b F hb hF
    rw [hr]
    simp only [if_true]
    exact goD_zeros F C hF (by omega) hC k r hz
  · rw [if_neg h]
    exact goD_stop (by rw [lt_nat b C hb hC, decide_eq_false h]) _
end Go.Proofs.Ytikobhbknnlgbaa
