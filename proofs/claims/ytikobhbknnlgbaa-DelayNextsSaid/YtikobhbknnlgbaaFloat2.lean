/- Plain facts on floats of 64 bits: the product of whole numbers below 2^53 is exact; less, and the cut, of whole numbers. -/
import Derived.Test.YtikobhbknnlgbaaFloat
namespace Go.Proofs.Ytikobhbknnlgbaa
open Ieee

theorem cut_exact (way : Toward) (neg : Bool) (k d : Nat) (hk : 0 < k) : way.cut neg (k * 2 ^ d) d = k := by
  unfold Toward.cut
  have hd : min d ((k * 2 ^ d).log2 + 2) = d := by
    apply Nat.min_eq_left
    have := log2_shift k d (by omega)
    rw [Nat.shiftLeft_eq] at this
    omega
  simp only [hd, Nat.shiftLeft_eq, Nat.one_mul, Nat.mul_mod_left, Nat.mul_div_cancel _ (Nat.two_pow_pos d)]
  have hp : 0 < 2 ^ d := Nat.two_pow_pos d
  cases way <;> simp

/-- the same number, written with more digits -/
theorem nearest_shift (n s : Nat) (h0 : 0 < n) (h1 : n < 2 ^ 53) : double.nearest false (n * 2 ^ s) (-(s : Int)) = double.nearest false n 0 := by
  have hl : n.log2 < 53 := (Nat.log2_lt (by omega)).2 h1
  have hls : (n * 2 ^ s).log2 = n.log2 + s := by have := log2_shift n s (by omega); rwa [Nat.shiftLeft_eq] at this
  have hne : n * 2 ^ s ≠ 0 := Nat.ne_of_gt (Nat.mul_pos h0 (Nat.two_pow_pos s))
  unfold Format.nearest
  rw [if_neg hne, if_neg (by omega), hls]
  generalize n.log2 = L at *
  simp only [show double.fractionBits = 52 from rfl, show double.leastPlace = -1074 by decide]
  have e1 : max (-(s : Int) + ((L + s : Nat) : Int) - (52 : Nat)) (-1074) = (L : Int) - 52 := by omega
  have e2 : max ((0 : Int) + (L : Int) - (52 : Nat)) (-1074) = (L : Int) - 52 := by omega
  rw [e1, e2]
  congr 3
  have e3 : ((0 : Int) - ((L : Int) - 52)).toNat = 52 - L := by omega
  have e4 : ((L : Int) - 52 - 0).toNat = 0 := by omega
  rw [e3, e4, cut_none, Nat.shiftLeft_eq, Nat.shiftLeft_eq]
  rcases Nat.le_total s (52 - L) with h | h
  · have e5 : (-(s : Int) - ((L : Int) - 52)).toNat = 52 - L - s := by omega
    have e6 : ((L : Int) - 52 - -(s : Int)).toNat = 0 := by omega
    rw [e5, e6, cut_none, Nat.mul_assoc, ← Nat.pow_add]
    congr 2
    omega
  · have e5 : (-(s : Int) - ((L : Int) - 52)).toNat = 0 := by omega
    have e6 : ((L : Int) - 52 - -(s : Int)).toNat = s - (52 - L) := by omega
    rw [e5, e6, Nat.pow_zero, Nat.mul_one, show n * 2 ^ s = n * 2 ^ (52 - L) * 2 ^ (s - (52 - L)) by rw [Nat.mul_assoc, ← Nat.pow_add]; congr 2; omega]
    exact cut_exact _ _ _ _ (Nat.mul_pos h0 (Nat.two_pow_pos _))

/-- what a whole number reads as -/
theorem read_nat (n : Nat) (h1 : n < 2 ^ 53) : ∃ s : Nat, (double.read (f64 (n : Int)) = .number false (n * 2 ^ s) (-(s : Int))) := by
  rcases Nat.eq_zero_or_pos n with rfl | h0
  · have e : ∀ s : Nat, Datum.number false (0 * 2 ^ s) (-(s : Int)) = .number false 0 (-(s : Int)) := fun s => by rw [Nat.zero_mul]
    exact ⟨1074, (show double.read (f64 ((0 : Nat) : Int)) = .number false 0 (-((1074 : Nat) : Int)) by rw [nearest_nat, nearest_zero, read_zero]; rfl).trans (e 1074).symm⟩
  · refine ⟨52 - n.log2, ?_⟩
    have hl : n.log2 < 53 := (Nat.log2_lt (by omega)).2 h1
    rw [nearest_nat, read_f64 n h0 h1, Nat.shiftLeft_eq]
    congr 1
    omega

theorem mul_nat (a b : Nat) (ha : a < 2 ^ 53) (hb : b < 2 ^ 53) (hab : a * b < 2 ^ 53) : floatBits .mul .f64 (f64 (a : Int)) (f64 (b : Int)) = some (f64 ((a * b : Nat) : Int)) := by
  obtain ⟨s, hs⟩ := read_nat a ha
  obtain ⟨t, ht⟩ := read_nat b hb
  show double.mul _ _ = _
  unfold Format.mul
  rw [hs, ht]
  simp only [Datum.product, Option.map_some, Format.write, Bool.xor_self]
  rw [nearest_nat, show a * 2 ^ s * (b * 2 ^ t) = a * b * 2 ^ (s + t) by rw [Nat.pow_add]; ac_rfl, show -(s : Int) + -(t : Int) = -((s + t : Nat) : Int) by omega]
  rcases Nat.eq_zero_or_pos (a * b) with h | h
  · rw [h, Nat.zero_mul]
    unfold Format.nearest
    rw [if_pos rfl, if_pos rfl]
  · rw [nearest_shift _ _ h hab]

theorem lt_nat (a b : Nat) (ha : a < 2 ^ 53) (hb : b < 2 ^ 53) : lt64 (f64 (a : Int)) (f64 (b : Int)) = decide (a < b) := by
  obtain ⟨s, hs⟩ := read_nat a ha
  obtain ⟨t, ht⟩ := read_nat b hb
  unfold lt64
  simp only [FloatKind.format, Format.order]
  rw [hs, ht]
  simp only [Datum.order, signed, Bool.false_eq_true, if_false, Nat.shiftLeft_eq]
  have hlt : ((a * 2 ^ s * 2 ^ (-(s : Int) - min (-(s : Int)) (-(t : Int))).toNat : Nat) : Int) < ((b * 2 ^ t * 2 ^ (-(t : Int) - min (-(s : Int)) (-(t : Int))).toNat : Nat) : Int) ↔ a < b := by
    rw [Int.ofNat_lt, Nat.mul_assoc, Nat.mul_assoc, ← Nat.pow_add, ← Nat.pow_add]
    have h1 : s + (-(s : Int) - min (-(s : Int)) (-(t : Int))).toNat = max s t := by omega
    have h2 : t + (-(t : Int) - min (-(s : Int)) (-(t : Int))).toNat = max s t := by omega
    rw [h1, h2]
    exact Nat.mul_lt_mul_right (Nat.two_pow_pos _)
  revert hlt
  generalize ((a * 2 ^ s * 2 ^ (-(s : Int) - min (-(s : Int)) (-(t : Int))).toNat : Nat) : Int) = X
  generalize ((b * 2 ^ t * 2 ^ (-(t : Int) - min (-(s : Int)) (-(t : Int))).toNat : Nat) : Int) = Y
  intro hlt
  by_cases h : a < b
  · rw [(int_lt X Y).2 (hlt.2 h), decide_eq_true h]
    rfl
  · have hn : compare X Y ≠ .lt := fun hh => h (hlt.1 ((int_lt X Y).1 hh))
    rw [decide_eq_false h]
    cases hc : compare X Y with
    | lt => exact absurd hc hn
    | eq => rfl
    | gt => rfl

theorem cut_nat (n : Nat) (h : n ≤ 2 ^ 40) : floatToIntVal .f64 (f64 (n : Int)) .i64 = some (n : Int) := by
  obtain ⟨s, hs⟩ := read_nat n (by omega)
  have hd : Datum.toInt .zero (.number false (n * 2 ^ s) (-(s : Int))) = some (n : Int) := by
    have hz : Toward.zero.cut false (n * 2 ^ s) s = n := by
      rcases Nat.eq_zero_or_pos n with rfl | h0
      · simp [Toward.cut]
      · exact cut_exact _ _ _ _ h0
    have e1 : (-(s : Int)).toNat = 0 := by omega
    have e2 : (- -(s : Int)).toNat = s := by omega
    simp only [Datum.toInt, Datum.integral, e1, e2, signed, Bool.false_eq_true, if_false, Nat.shiftLeft_eq, Nat.pow_zero, Nat.mul_one, hz]
  unfold floatToIntVal
  simp only [FloatKind.decode, FloatKind.format]
  rw [hs, hd]
  have e1 : IntKind.i64.min = -9223372036854775808 := by decide
  have e2 : IntKind.i64.max = 9223372036854775807 := by decide
  rw [e1, e2]
  simp only
  rw [if_pos (by omega)]
end Go.Proofs.Ytikobhbknnlgbaa
