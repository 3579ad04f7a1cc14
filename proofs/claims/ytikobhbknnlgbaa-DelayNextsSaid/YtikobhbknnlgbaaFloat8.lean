/- Plain facts on floats of 64 bits with a sign: read, compared with 0, halved. -/
import Derived.Test.YtikobhbknnlgbaaFloat7
import Derived.Test.YtikobhbknnlgbaaDelayKindX
namespace Go.Proofs.Ytikobhbknnlgbaa
open Ieee

abbrev absX (x : Nat) : Nat := x % 9223372036854775808
theorem neg_any (x : Nat) (hx : x < 18446744073709551616) : (x / 9223372036854775808 % 2 == 1) = negX x := by
  unfold negX
  by_cases hs : 9223372036854775808 ≤ x
  · have h3 : x / 9223372036854775808 = 1 := by omega
    rw [h3]; simp [hs]
  · have h3 : x / 9223372036854775808 = 0 := by omega
    rw [h3]; simp [hs]
theorem read_any (x : Nat) (hx : x < 18446744073709551616) (hy : absX x < 9218868437227405312) : double.read x = .number (negX x) (mag (absX x)) (-1074 + (exs (absX x) : Int)) := by
  obtain ⟨e4, e5, e6, e7, _⟩ := consts
  unfold Format.read mag exs
  simp only [e4, e5, e6, e7]
  rw [neg_any x hx]
  by_cases h : absX x < 4503599627370496
  · rw [if_pos h, if_pos h, if_pos h]
    (try rfl)
  · rw [if_neg h, if_neg h, if_neg h, if_pos hy]
    (try rfl)
theorem read_nan (x : Nat) (hy : 9218868437227405312 < absX x) : ∃ s f, double.read x = .nan s f := by
  obtain ⟨e4, e5, e6, e7, _⟩ := consts
  unfold Format.read
  simp only [e4, e5, e6, e7]
  have hy' : 9218868437227405312 < x % 9223372036854775808 := hy
  rw [if_neg (by omega), if_neg (by omega), if_neg (by omega)]
  exact ⟨_, _, rfl⟩
theorem read_infs (x : Nat) (hx : x < 18446744073709551616) (hy : absX x = 9218868437227405312) : double.read x = .infinity (negX x) := by
  obtain ⟨e4, e5, e6, e7, _⟩ := consts
  unfold Format.read
  simp only [e4, e5, e6, e7]
  have hy' : x % 9223372036854775808 = 9218868437227405312 := hy
  rw [neg_any x hx, if_neg (by omega), if_neg (by omega), if_pos hy]
theorem order_nan (x y : Nat) (hy : 9218868437227405312 < absX x) : double.order x y = none := by
  obtain ⟨s, f, h⟩ := read_nan x hy
  unfold Format.order
  rw [h]
  rfl
theorem order_self (x : Nat) (hx : x < 18446744073709551616) (hy : absX x ≤ 9218868437227405312) : double.order x x = some .eq := by
  unfold Format.order
  rcases Nat.eq_or_lt_of_le hy with h | h
  · rw [read_infs x hx h]
    simp [Datum.order]
  · rw [read_any x hx h]
    simp [Datum.order]
/-- against nought -/
theorem order_zero (x : Nat) (hx : x < 18446744073709551616) (h0 : absX x ≠ 0) (hy : absX x ≤ 9218868437227405312) : double.order x 0 = some (if negX x then .lt else .gt) := by
  unfold Format.order
  rw [read_zero]
  rcases Nat.eq_or_lt_of_le hy with h | h
  · rw [read_infs x hx h]
    cases negX x <;> rfl
  · rw [read_any x hx h]
    have hm0 : 0 < mag (absX x) := by
      rcases Nat.eq_zero_or_pos (exs (absX x)) with e | e
      · have := word_eq (absX x); rw [e] at this; omega
      · have := mag_ge (absX x) e; omega
    simp only [Datum.order, signed, Nat.shiftLeft_eq]
    have hp : 0 < mag (absX x) * 2 ^ (-1074 + (exs (absX x) : Int) - min (-1074 + (exs (absX x) : Int)) (-1074)).toNat := Nat.mul_pos hm0 (Nat.two_pow_pos _)
    generalize mag (absX x) * 2 ^ (-1074 + (exs (absX x) : Int) - min (-1074 + (exs (absX x) : Int)) (-1074)).toNat = n at *
    cases negX x
    · simp only [Option.some.injEq, Bool.false_eq_true, if_false]
      exact (Int.compare_eq_gt.2 (by omega))
    · simp only [Option.some.injEq, if_true, Bool.false_eq_true, if_false]
      exact (Int.compare_eq_lt.2 (by omega))
end Go.Proofs.Ytikobhbknnlgbaa
