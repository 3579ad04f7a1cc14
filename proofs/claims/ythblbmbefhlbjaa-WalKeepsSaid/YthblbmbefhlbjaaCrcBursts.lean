/- The law CrcBursts, walked. -/
import Derived.Test.YthblbmbefhlbjaaCrcAlive
import Derived.RegionTactic
import Derived.BigRegion
import Derived.Deep.RegionWith
namespace Go.Proofs.Ythblbmbefhlbjaa
open Go.RowKit

theorem bit_at (b j : Nat) (hb : b < 4294967296) : bits BinOp.and IntKind.u32 ((b : Int) / 2 ^ j) 1 = if b.testBit j then 1 else 0 := by
  have hlt : b / 2 ^ j < 4294967296 := Nat.lt_of_le_of_lt (Nat.div_le_self _ _) hb
  rw [show ((b : Int) / 2 ^ j) = ((b / 2 ^ j : Nat) : Int) from by simp, show (1 : Int) = ((1 : Nat) : Int) from rfl, u32_and_nat _ _ hlt (by omega), Nat.and_one_is_mod]
  have : b.testBit j = decide (b / 2 ^ j % 2 = 1) := Nat.testBit_eq_decide_div_mod_eq
  rw [this]
  rcases Nat.mod_two_eq_zero_or_one (b / 2 ^ j) with h | h <;> simp [h]
theorem mod_step (b j : Nat) : b % 2 ^ (j + 1) = if b.testBit j then (b % 2 ^ j) ^^^ 2 ^ j else b % 2 ^ j := by
  apply Nat.eq_of_testBit_eq
  intro i
  have e : (if b.testBit j then (b % 2 ^ j) ^^^ 2 ^ j else b % 2 ^ j).testBit i = ((b % 2 ^ j).testBit i ^^ (b.testBit j && (2 ^ j).testBit i)) := by
    cases b.testBit j <;> simp [Nat.testBit_xor]
  rw [e, Nat.testBit_mod_two_pow, Nat.testBit_mod_two_pow, Nat.testBit_two_pow]
  by_cases h : i = j
  · subst h; simp
  · by_cases h2 : i < j
    · simp [h2, show i < j + 1 from by omega, show ¬ j = i from fun e => h e.symm]
    · simp [h2, show ¬ i < j + 1 from by omega, show ¬ j = i from fun e => h e.symm]
theorem two_pow_lt8 {r : Nat} (hr : r < 8) : 2 ^ r < 256 := (Nat.pow_lt_pow_iff_right (a := 2) (n := r) (m := 8) (by omega)).2 hr
theorem pow_mul_xor (k a b : Nat) : 2 ^ k * (a ^^^ b) = 2 ^ k * a ^^^ 2 ^ k * b := by
  apply Nat.eq_of_testBit_eq
  intro i
  simp only [Nat.testBit_xor, Nat.testBit_two_pow_mul]
  by_cases h : k ≤ i <;> simp [h]
theorem xor_bit (x : UInt8) (r : Nat) (hr : r < 8) : bits BinOp.xor .u8 (x.toNat : Int) ((2 : Int) ^ r % 256) = ((x ^^^ UInt8.ofNat (2 ^ r)).toNat : Int) := by
  have h2 : 2 ^ r < 256 := two_pow_lt8 hr
  rw [show ((2 : Int) ^ r % 256) = ((2 ^ r : Nat) : Int) from by (have e : ((2 : Int) ^ r) = ((2 ^ r : Nat) : Int) := by simp); rw [e]; clear e; generalize 2 ^ r = y at h2; omega, u8_xor_nat _ _ (UInt8.toNat_lt _) h2, UInt8.toNat_xor, UInt8.toNat_ofNat', Nat.mod_eq_of_lt h2]
theorem turn_num {M : List UInt8} {q r K j : Nat} {x : UInt8} {N b : Nat} (hx : M[q]? = some x) (hr : r < 8) (hq : 8 * q + r = K + j) (hN : Crc.num M = N ^^^ 2 ^ K * b) : Crc.num (M.set q (x ^^^ UInt8.ofNat (2 ^ r))) = N ^^^ 2 ^ K * (b ^^^ 2 ^ j) := by
  have h2 : 2 ^ r < 256 := two_pow_lt8 hr
  rw [Crc.num_set M q x _ hx, hN, UInt8.toNat_ofNat', Nat.mod_eq_of_lt h2, ← Nat.pow_add, hq, Nat.xor_assoc, pow_mul_xor, Nat.pow_add]
end Go.Proofs.Ythblbmbefhlbjaa
