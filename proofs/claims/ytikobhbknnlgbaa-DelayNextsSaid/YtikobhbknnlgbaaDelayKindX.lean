/- Layer 12: Kind of whatever bits. -/
import Derived.Test.YtikobhbknnlgbaaDelayKind
import Derived.Laws.Bits64b
import Derived.Laws.BitsAllLaws
namespace Go.Proofs.Ytikobhbknnlgbaa
open Go.RowKit

theorem andS (x k s : Nat) : x &&& ((2 ^ k - 1) <<< s) = x / 2 ^ s % 2 ^ k * 2 ^ s := by
  have h2 : x &&& ((2 ^ k - 1) <<< s) = ((x >>> s) &&& (2 ^ k - 1)) <<< s := by
    apply Nat.eq_of_testBit_eq
    intro i
    simp only [Nat.testBit_and, Nat.testBit_shiftLeft, Nat.testBit_shiftRight]
    by_cases hi : s ≤ i
    · simp [hi, show s + (i - s) = i from by omega]
    · simp [hi]
  rw [h2, Nat.and_two_pow_sub_one_eq_mod, Nat.shiftRight_eq_div_pow, Nat.shiftLeft_eq]
theorem andC (x : Nat) : x &&& 4503599627370495 = x % 4503599627370496 := by
  have h := Nat.and_two_pow_sub_one_eq_mod x 52
  simpa using h
theorem andD (x : Nat) : x &&& 9223372036854775807 = x % 9223372036854775808 := by
  have h := Nat.and_two_pow_sub_one_eq_mod x 63
  simpa using h
theorem andA (x : Nat) : x &&& 9223372036854775808 = x / 9223372036854775808 % 2 * 9223372036854775808 := by
  have h := andS x 1 63
  simpa using h
theorem andB (x : Nat) : x &&& 9218868437227405312 = x / 4503599627370496 % 2048 * 4503599627370496 := by
  have h := andS x 11 52
  simpa using h
theorem bA (x : Nat) (hx : x < 18446744073709551616) : bits .and .u64 (x : Int) 9223372036854775808 = ((x / 9223372036854775808 % 2 * 9223372036854775808 : Nat) : Int) := by
  have h := u64_and_nat x 9223372036854775808 hx (by decide)
  rw [andA] at h; exact h
theorem bB (x : Nat) (hx : x < 18446744073709551616) : bits .and .u64 (x : Int) 9218868437227405312 = ((x / 4503599627370496 % 2048 * 4503599627370496 : Nat) : Int) := by
  have h := u64_and_nat x 9218868437227405312 hx (by decide)
  rw [andB] at h; exact h
theorem bC (x : Nat) (hx : x < 18446744073709551616) : bits .and .u64 (x : Int) 4503599627370495 = ((x % 4503599627370496 : Nat) : Int) := by
  have h := u64_and_nat x 4503599627370495 hx (by decide)
  rw [andC] at h; exact h
theorem bD (x : Nat) (hx : x < 18446744073709551616) : bits .andNot .u64 (x : Int) 9223372036854775808 = ((x % 9223372036854775808 : Nat) : Int) := by
  have h := u64_andNot_nat x 9223372036854775808 hx (by decide)
  rw [show 18446744073709551615 - 9223372036854775808 = 9223372036854775807 from by decide, andD] at h
  exact h

/-- is the sign laid? -/
def negX (x : Nat) : Bool := decide (9223372036854775808 ≤ x)
/-- what a factor is, by its bits -/
def kindX (x : Nat) : Int :=
  if x % 9223372036854775808 > 9218868437227405312 then 0 else if x % 9223372036854775808 = 9218868437227405312 then (if negX x then 2 else 1) else if x % 9223372036854775808 = 0 then (if negX x then 4 else 3) else if negX x then 5 else 6
set_option maxHeartbeats 2000000 in
set_option maxRecDepth 100000 in
theorem delayKind (x : Nat) (hx : x < 18446744073709551616) (w : World) : Calls Try.prog 41 #[.float .f64 x] w fun e w' => e = .returned (.int .i64 (kindX x)) ∧ w = w' := by
  have h2 := fun w => toBits x w
  have hm : (bits .and .u64 (x : Int) 9223372036854775808 != 0) = negX x := by
    rw [bA x hx]
    unfold negX
    by_cases h : 9223372036854775808 ≤ x
    · have e : x / 9223372036854775808 % 2 = 1 := by omega
      rw [e]; simp [h]
    · have e : x / 9223372036854775808 % 2 = 0 := by omega
      rw [e]; simp [h]
  generalize hn : negX x = m at hm
  by_cases hE : x / 4503599627370496 % 2048 = 2047
  · have b2 : bits .and .u64 (x : Int) 9218868437227405312 = 9218868437227405312 := by rw [bB x hx, hE]; rfl
    by_cases hM : x % 4503599627370496 = 0
    · have b3 : (bits .and .u64 (x : Int) 4503599627370495 != 0) = false := by rw [bC x hx, hM]; rfl
      have hR : kindX x = if m then 2 else 1 := by
        unfold kindX
        rw [if_neg (by omega), if_pos (by omega), hn]
      rw [hR]
      clear hR hn
      cases m
      all_goals
        go_enter Try.func41, Try.ntmps41
        go_wp2_with (fail)
        refine (either_any _ 2 1 _).mono ?_
        rintro e w1 ⟨rfl, rfl⟩
        go_wp2_with (fail)
        go_ret
        exact ⟨rfl, rfl⟩
    · have b3 : (bits .and .u64 (x : Int) 4503599627370495 != 0) = true := by rw [bC x hx, bne_iff_ne]; omega
      have hR : kindX x = 0 := if_pos (by omega)
      rw [hR]
      clear hR
      go_enter Try.func41, Try.ntmps41
      go_wp2_with (fail)
      go_ret
      exact ⟨rfl, rfl⟩
  · have b2 : (bits .and .u64 (x : Int) 9218868437227405312 == 9218868437227405312) = false := by rw [bB x hx, beq_eq_false_iff_ne]; omega
    by_cases h0 : x % 9223372036854775808 = 0
    · have b4 : (bits .andNot .u64 (x : Int) 9223372036854775808 == 0) = true := by rw [bD x hx, h0]; rfl
      have hR : kindX x = if m then 4 else 3 := by
        unfold kindX
        rw [if_neg (by omega), if_neg (by omega), if_pos h0, hn]
      rw [hR]
      clear hR hn
      cases m
      all_goals
        go_enter Try.func41, Try.ntmps41
        go_wp2_with (fail)
        refine (either_any _ 4 3 _).mono ?_
        rintro e w1 ⟨rfl, rfl⟩
        go_wp2_with (fail)
        go_ret
        exact ⟨rfl, rfl⟩
    · have b4 : (bits .andNot .u64 (x : Int) 9223372036854775808 == 0) = false := by rw [bD x hx, beq_eq_false_iff_ne]; omega
      have hR : kindX x = if m then 5 else 6 := by
        unfold kindX
        rw [if_neg (by omega), if_neg (by omega), if_neg h0, hn]
      rw [hR]
      clear hR hn
      cases m
      all_goals
        go_enter Try.func41, Try.ntmps41
        go_wp2_with (fail)
        refine (either_any _ 5 6 _).mono ?_
        rintro e w1 ⟨rfl, rfl⟩
        go_wp2_with (fail)
        go_ret
        exact ⟨rfl, rfl⟩
end Go.Proofs.Ytikobhbknnlgbaa
