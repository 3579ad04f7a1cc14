/- Plain facts on floats of 64 bits: a half is another float. -/
import Derived.Test.YtikobhbknnlgbaaFloat6
namespace Go.Proofs.Ytikobhbknnlgbaa
open Ieee

theorem V_lt (x : Nat) (h : 1 ≤ x) : V (x - 1) < V x := by
  have h1 := word_eq x
  have h2 := word_eq (x - 1)
  have m1 := mag_lt x
  have m2 := mag_lt (x - 1)
  unfold V
  rcases Nat.lt_trichotomy (exs (x - 1)) (exs x) with q | q | q
  · have g1 := mag_ge x (by omega)
    have a : (exs (x - 1) + 1) * 4503599627370496 ≤ exs x * 4503599627370496 := Nat.mul_le_mul_right _ q
    have hp : 0 < 2 ^ exs (x - 1) := Nat.two_pow_pos _
    calc mag (x - 1) * 2 ^ exs (x - 1) < 9007199254740992 * 2 ^ exs (x - 1) := Nat.mul_lt_mul_of_pos_right m2 hp
      _ = 4503599627370496 * 2 ^ (exs (x - 1) + 1) := by rw [Nat.pow_succ]; omega
      _ ≤ mag x * 2 ^ exs x := Nat.mul_le_mul g1 (Nat.pow_le_pow_right (by omega) q)
  · rw [q] at h2 ⊢
    exact Nat.mul_lt_mul_of_pos_right (by omega) (Nat.two_pow_pos _)
  · have g1 := mag_ge (x - 1) (by omega)
    have a : (exs x + 1) * 4503599627370496 ≤ exs (x - 1) * 4503599627370496 := Nat.mul_le_mul_right _ q
    omega
theorem read_two : double.read 4611686018427387904 = .number false 4503599627370496 (-51) := by decide
/-- the word of a float's half, but for its sign -/
theorem half_nearest (y : Nat) (h1 : 1 ≤ y) (hy : y < 9218868437227405312) (s : Bool) :
    ∃ M p, Datum.quotient 54 (.number s (mag y) (-1074 + (exs y : Int))) (.number false 4503599627370496 (-51)) = some (.number s M p) ∧ double.nearest false M p ≤ y - 1 := by
  have hl2 : (4503599627370496 : Nat).log2 = 52 := by decide
  have hm0 : 0 < mag y := by
    rcases Nat.eq_zero_or_pos (exs y) with e | e
    · have := word_eq y; rw [e] at this; omega
    · have := mag_ge y e; omega
  have hlm : (mag y).log2 ≤ 52 := by
    have h := (Nat.log2_lt (n := mag y) (k := 53) (by omega)).2 (by have := mag_lt y; omega)
    omega
  obtain ⟨more, hmore⟩ : ∃ more, more = 54 + 52 - (mag y).log2 := ⟨_, rfl⟩
  have hge : 54 ≤ more := by omega
  refine ⟨2 * (mag y <<< more / 4503599627370496) + (mag y <<< more % 4503599627370496 != 0).toNat, -1074 + (exs y : Int) - -51 - (more : Int) - 1, ?_, ?_⟩
  · simp [Datum.quotient, hl2, ← hmore]
  · have hdiv : mag y <<< more = mag y * 2 ^ (more - 52) * 4503599627370496 := by
      rw [Nat.shiftLeft_eq, Nat.mul_assoc, show (4503599627370496 : Nat) = 2 ^ 52 from by decide, ← Nat.pow_add, show more - 52 + 52 = more from by omega]
    rw [hdiv, Nat.mul_div_cancel _ (by decide), Nat.mul_mod_left]
    simp only [bne_self_eq_false, Bool.toNat_false, Nat.add_zero]
    rcases Nat.eq_or_lt_of_le h1 with e | e
    · subst e
      have e1 : mag 1 = 1 := by decide
      have e2 : exs 1 = 0 := by decide
      rw [e1] at hmore
      have hl1 : (1 : Nat).log2 = 0 := by decide
      rw [hl1] at hmore
      subst hmore
      rw [e1, e2]
      decide
    · refine nearest_le (y - 1) _ more (exs y + 50) _ (by omega) ?_
      have hv := V_half y e
      unfold V at hv
      calc 2 * (mag y * 2 ^ (more - 52)) * 2 ^ (exs y + 50) = mag y * 2 ^ exs y * 2 ^ (more - 1) := by
            rw [show more - 1 = (more - 52) + (50 + 1) from by omega, Nat.pow_add 2 (exs y) 50, Nat.pow_add 2 (more - 52) (50 + 1), Nat.pow_add 2 50 1, Nat.pow_one]
            generalize (2 : Nat) ^ 50 = t
            ac_rfl
        _ ≤ 2 * (mag (y - 1) * 2 ^ exs (y - 1)) * 2 ^ (more - 1) := Nat.mul_le_mul_right _ hv
        _ = mag (y - 1) * 2 ^ (exs (y - 1) + more) := by
            rw [Nat.pow_add, show (2 : Nat) ^ more = 2 * 2 ^ (more - 1) from by rw [← Nat.pow_succ', show (more - 1).succ = more from by omega]]
            ac_rfl
end Go.Proofs.Ytikobhbknnlgbaa
