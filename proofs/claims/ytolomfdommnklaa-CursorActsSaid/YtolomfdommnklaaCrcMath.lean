/- Layer 1: the sum as plain arithmetic on numbers, without the program. -/
import Derived.Laws.BitsAllLaws
namespace Go.Proofs.Ytolomfdommnklaa.Crc

def step (x : Nat) : Nat := if x % 2 = 1 then 3988292384 ^^^ (x / 2) else x / 2
def it : Nat → Nat → Nat
  | 0, x => x
  | n + 1, x => it n (step x)
def row (i : Nat) : Nat := it 8 i
def upd (x : Nat) (l : List UInt8) : Nat := l.foldl (fun x c => row ((x % 256) ^^^ c.toNat) ^^^ (x / 256)) x
/-- the sum of some bytes, of which s is the sum, and of l behind them -/
def sum (s : Nat) (l : List UInt8) : Nat := 4294967295 ^^^ upd (4294967295 ^^^ s) l

theorem mod_two (x : Nat) : x % 2 = (x.testBit 0).toNat := by
  rw [Nat.testBit_zero]
  rcases Nat.mod_two_eq_zero_or_one x with h | h <;> simp [h]
theorem xor_mod_two (a b : Nat) : (a ^^^ b) % 2 = (a + b) % 2 := by
  rw [mod_two (a ^^^ b), Nat.testBit_xor, Nat.add_mod, mod_two a, mod_two b]
  cases a.testBit 0 <;> cases b.testBit 0 <;> rfl
theorem step_xor (a b : Nat) : step (a ^^^ b) = step a ^^^ step b := by
  unfold step
  rw [Nat.xor_div_two, xor_mod_two]
  rcases Nat.mod_two_eq_zero_or_one a with ha | ha <;> rcases Nat.mod_two_eq_zero_or_one b with hb | hb
  · rw [if_neg (by omega), if_neg (by omega), if_neg (by omega)]
  · rw [if_pos (by omega), if_neg (by omega), if_pos (by omega), ← Nat.xor_assoc, ← Nat.xor_assoc, Nat.xor_comm 3988292384]
  · rw [if_pos (by omega), if_pos (by omega), if_neg (by omega), Nat.xor_assoc]
  · rw [if_neg (by omega), if_pos (by omega), if_pos (by omega)]
    rw [Nat.xor_assoc, Nat.xor_comm (a / 2) (3988292384 ^^^ b / 2), Nat.xor_assoc, ← Nat.xor_assoc 3988292384, Nat.xor_self, Nat.zero_xor, Nat.xor_comm]
theorem it_xor (n : Nat) : ∀ a b, it n (a ^^^ b) = it n a ^^^ it n b := by
  induction n with
  | zero => intro a b; rfl
  | succ n ih => intro a b; unfold it; rw [step_xor, ih]
theorem it_add (n m : Nat) : ∀ x, it (n + m) x = it m (it n x) := by
  induction n with
  | zero => intro x; rw [Nat.zero_add]; rfl
  | succ n ih => intro x; rw [Nat.succ_add]; exact ih (step x)
theorem step_two (y : Nat) : step (2 * y) = y := by
  unfold step
  rw [if_neg (by omega)]
  omega
theorem it_pow (n : Nat) : ∀ y, it n (2 ^ n * y) = y := by
  induction n with
  | zero => intro y; show 2 ^ 0 * y = y; omega
  | succ n ih =>
    intro y
    unfold it
    rw [Nat.pow_succ, show 2 ^ n * 2 * y = 2 * (2 ^ n * y) from by rw [Nat.mul_comm (2 ^ n) 2, Nat.mul_assoc], step_two, ih]
theorem step_lt {x : Nat} (h : x < 4294967296) : step x < 4294967296 := by
  unfold step
  split
  · exact Nat.xor_lt_two_pow (n := 32) (by omega) (by omega)
  · omega
theorem it_lt (n : Nat) : ∀ {x : Nat}, x < 4294967296 → it n x < 4294967296 := by
  induction n with
  | zero => intro x h; exact h
  | succ n ih => intro x h; exact ih (step_lt h)
theorem step_ne {x : Nat} (h : x < 4294967296) (h0 : x ≠ 0) : step x ≠ 0 := by
  unfold step
  split
  · intro e
    have := congrArg (fun y => Nat.testBit y 31) e
    simp only [Nat.testBit_xor, Nat.zero_testBit] at this
    have h1 : Nat.testBit (x / 2) 31 = false := Nat.testBit_lt_two_pow (by omega)
    rw [h1] at this
    exact absurd this (by decide)
  · omega
theorem it_ne (n : Nat) : ∀ {x : Nat}, x < 4294967296 → x ≠ 0 → it n x ≠ 0 := by
  induction n with
  | zero => intro x _ h; exact h
  | succ n ih => intro x h h0; exact ih (step_lt h) (step_ne h h0)

theorem split8 (x c : Nat) (hc : c < 256) : x ^^^ c = ((x % 256) ^^^ c) ^^^ 2 ^ 8 * (x / 256) := by
  apply Nat.eq_of_testBit_eq
  intro i
  have e1 : x % 256 = x % 2 ^ 8 := rfl
  have e2 : x / 256 = x / 2 ^ 8 := rfl
  rw [e1, e2, Nat.testBit_xor, Nat.testBit_xor, Nat.testBit_xor, Nat.testBit_mod_two_pow, Nat.testBit_two_pow_mul, Nat.testBit_div_two_pow]
  by_cases h : i < 8
  · simp [h, show ¬ 8 ≤ i from by omega]
  · have : Nat.testBit c i = false := Nat.testBit_lt_two_pow (Nat.lt_of_lt_of_le hc (by
      have : 2 ^ 8 ≤ 2 ^ i := Nat.pow_le_pow_right (by omega) (by omega)
      simpa using this))
    simp [h, this, show 8 ≤ i from by omega, show i - 8 + 8 = i from by omega]
theorem feed (x c : Nat) (hc : c < 256) : row ((x % 256) ^^^ c) ^^^ (x / 256) = it 8 (x ^^^ c) := by
  rw [split8 x c hc, it_xor, it_pow]
  rfl
/-- bytes as one number, the first the lowest -/
def num : List UInt8 → Nat
  | [] => 0
  | c :: l => c.toNat ^^^ 2 ^ 8 * num l
theorem upd_num (l : List UInt8) : ∀ x, upd x l = it (8 * l.length) (x ^^^ num l) := by
  induction l with
  | nil => intro x; show x = x ^^^ 0; rw [Nat.xor_zero]
  | cons c l ih =>
    intro x
    show upd (row ((x % 256) ^^^ c.toNat) ^^^ (x / 256)) l = _
    rw [feed x c.toNat c.toNat_lt, ih, List.length_cons, show 8 * (l.length + 1) = 8 + 8 * l.length from by omega, it_add]
    show _ = it (8 * l.length) (it 8 (x ^^^ (c.toNat ^^^ 2 ^ 8 * num l)))
    rw [← Nat.xor_assoc, it_xor 8 (x ^^^ c.toNat), it_pow]
theorem upd_append (x : Nat) (a b : List UInt8) : upd x (a ++ b) = upd (upd x a) b := List.foldl_append ..
theorem upd_snoc (x : Nat) (a : List UInt8) (c : UInt8) : upd x (a ++ [c]) = row (((upd x a) % 256) ^^^ c.toNat) ^^^ ((upd x a) / 256) := by rw [upd_append]; rfl
theorem row_lt {x : Nat} (h : x < 4294967296) : row x < 4294967296 := it_lt 8 h
theorem upd_lt (l : List UInt8) : ∀ {x : Nat}, x < 4294967296 → upd x l < 4294967296 := by
  induction l with
  | nil => intro x h; exact h
  | cons c l ih =>
    intro x h
    have := c.toNat_lt
    refine ih (Nat.xor_lt_two_pow (n := 32) (row_lt (Nat.xor_lt_two_pow (n := 32) (by omega) (by omega))) (by omega))
theorem sum_lt {s : Nat} (l : List UInt8) (h : s < 4294967296) : sum s l < 4294967296 :=
  Nat.xor_lt_two_pow (n := 32) (by omega) (upd_lt l (Nat.xor_lt_two_pow (n := 32) (by omega) (by omega)))
theorem xor_cancel (a b : Nat) : a ^^^ (a ^^^ b) = b := by rw [← Nat.xor_assoc, Nat.xor_self, Nat.zero_xor]
theorem sum_append (s : Nat) (a b : List UInt8) : sum s (a ++ b) = sum (sum s a) b := by
  unfold sum
  rw [upd_append, xor_cancel]

/-- a byte with bits turned -/
theorem num_set (l : List UInt8) : ∀ (j : Nat) (c d : UInt8), l[j]? = some c → num (l.set j (c ^^^ d)) = num l ^^^ 2 ^ (8 * j) * d.toNat := by
  induction l with
  | nil => intro j c d h; simp at h
  | cons x l ih =>
    intro j c d h
    cases j with
    | zero =>
      simp at h
      subst h
      simp only [List.set_cons_zero]
      unfold num
      rw [UInt8.toNat_xor, Nat.mul_zero, Nat.pow_zero, Nat.one_mul, Nat.xor_assoc, Nat.xor_comm d.toNat, Nat.xor_assoc]
    | succ j =>
      simp at h
      simp only [List.set_cons_succ]
      unfold num
      rw [ih j c d h, Nat.xor_assoc]
      congr 1
      apply Nat.eq_of_testBit_eq
      intro i
      rw [show 8 * (j + 1) = 8 + 8 * j from by omega, Nat.pow_add, Nat.mul_assoc, Nat.testBit_xor, Nat.testBit_two_pow_mul, Nat.testBit_two_pow_mul, Nat.testBit_two_pow_mul, Nat.testBit_xor]
      by_cases h8 : 8 ≤ i <;> simp [h8]
/-- bytes that differ in a burst have other sums -/
theorem upd_ne (x : Nat) (l m : List UInt8) (k d : Nat) (hl : l.length = m.length) (hn : num m = num l ^^^ 2 ^ k * d) (hd : d < 4294967296) (h0 : d ≠ 0) (hk : k ≤ 8 * l.length) : upd x m ≠ upd x l := by
  intro e
  rw [upd_num, upd_num, ← hl, hn, ← Nat.xor_assoc, it_xor] at e
  have h1 := congrArg (fun y => it (8 * l.length) (x ^^^ num l) ^^^ y) e
  simp only [xor_cancel, Nat.xor_self] at h1
  rw [show 8 * l.length = k + (8 * l.length - k) from by omega, it_add, it_pow] at h1
  exact it_ne _ hd h0 h1
theorem sum_ne (s : Nat) (l m : List UInt8) (k d : Nat) (hl : l.length = m.length) (hn : num m = num l ^^^ 2 ^ k * d) (hd : d < 4294967296) (h0 : d ≠ 0) (hk : k ≤ 8 * l.length) : sum s m ≠ sum s l := by
  intro e
  unfold sum at e
  have := congrArg (fun y => 4294967295 ^^^ y) e
  simp only [xor_cancel] at this
  exact upd_ne _ l m k d hl hn hd h0 hk this
end Go.Proofs.Ytolomfdommnklaa.Crc
