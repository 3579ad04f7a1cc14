/- Layer 12: the delay of a whole factor. -/
import Derived.Test.YtplacjhmdfmocafDelay
import Derived.Test.YtplacjhmdfmocafFloat2
namespace Go.Proofs.Ytplacjhmdfmocaf

theorem goD_whole (F C : Nat) (hF : F ≤ 9) (h1 : 1 ≤ F) (hC : C ≤ 2 ^ 40) : ∀ (k d : Nat), d ≤ 2 ^ 44 → goD (f64 (F : Int)) (f64 (C : Int)) (C : Int) k (f64 (d : Int)) = ((min (d * F ^ k) C : Nat) : Int)
  | 0, d, hd => by
    unfold goD
    have hz : lt64 (f64 (d : Int)) 0 = false := by
      have h := lt_nat d 0 (by omega) (by omega)
      rw [show f64 ((0 : Nat) : Int) = 0 by rw [nearest_nat, nearest_zero]] at h
      simpa using h
    rw [lt_nat d C (by omega) (by omega), hz]
    by_cases h : d < C
    · rw [cut_nat d (by omega)]
      simp [h]
      omega
    · simp [h]
      omega
  | k + 1, d, hd => by
    unfold goD
    rw [lt_nat d C (by omega) (by omega)]
    by_cases h : d < C
    · have hdf : d * F ≤ 2 ^ 44 := by
        have : d * F ≤ 2 ^ 40 * 9 := Nat.mul_le_mul (by omega) hF
        omega
      rw [mul_nat d F (by omega) (by omega) (by omega)]
      simp only [h, decide_true, if_true]
      rw [goD_whole F C hF h1 hC k (d * F) hdf, Nat.mul_assoc, ← Nat.pow_succ']
    · have hp : 1 ≤ F ^ (k + 1) := Nat.one_le_pow _ _ h1
      have hm : d ≤ d * F ^ (k + 1) := Nat.le_mul_of_pos_right _ hp
      simp [h]
      omega

theorem nextD_whole (b F C k : Nat) (hb : b ≤ 2 ^ 40) (hF : F ≤ 9) (h1 : 1 ≤ F) (hC : C ≤ 2 ^ 40) : nextD (b : Int) (C : Int) (f64 (F : Int)) k = ((min (b * F ^ (min k 1000)) C : Nat) : Int) :=
  goD_whole F C hF h1 hC _ b (by omega)

theorem f64_two : f64 ((2 : Nat) : Int) = 4611686018427387904 := by decide +kernel
end Go.Proofs.Ytplacjhmdfmocaf
