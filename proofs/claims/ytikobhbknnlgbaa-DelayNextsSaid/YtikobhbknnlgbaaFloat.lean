/- Plain facts on floats of 64 bits: whole numbers below 2^53 are told exactly; what is no number isn't less; a number that is less than a whole one, and not below 0, is cut to one from 0 up to it. -/
import Derived.Laws.FloatArith
namespace Go.Proofs.Ytikobhbknnlgbaa
open Ieee

/-- less, as float64 has it -/
def lt64 (x y : Nat) : Bool := FloatKind.f64.format.order x y == some .lt
/-- the float of a whole number -/
abbrev f64 (n : Int) : Nat := floatOfInt .f64 n

theorem log2_shift (n s : Nat) (h : n ≠ 0) : (n <<< s).log2 = n.log2 + s := by
  have h1 := Nat.log2_self_le h
  have h2 : n < 2 ^ (n.log2 + 1) := Nat.lt_log2_self
  have hp : 0 < 2 ^ s := Nat.two_pow_pos s
  rw [Nat.shiftLeft_eq]
  refine (Nat.log2_eq_iff (by have := Nat.mul_pos (Nat.pos_of_ne_zero h) hp; omega)).2 ⟨?_, ?_⟩
  · rw [Nat.pow_add]; exact Nat.mul_le_mul_right _ h1
  · rw [show n.log2 + s + 1 = n.log2 + 1 + s by omega, Nat.pow_add]; exact Nat.mul_lt_mul_of_pos_right h2 hp

theorem cut_none (way : Toward) (neg : Bool) (n : Nat) : way.cut neg n 0 = n := by
  unfold Toward.cut
  simp only [Nat.zero_min, Nat.shiftLeft_zero, Nat.div_one, Nat.mod_one]
  cases way <;> simp

theorem int_lt (a b : Int) : compare a b = .lt ↔ a < b := by
  show compareOfLessAndEq a b = .lt ↔ _
  unfold compareOfLessAndEq
  by_cases h : a < b
  · simp [h]
  · by_cases e : a = b <;> simp [h, e]

/-- a whole number below 2^53, written and read -/
theorem read_f64 (n : Nat) (h0 : 0 < n) (h1 : n < 2 ^ 53) : double.read (double.nearest false n 0) = .number false (n <<< (52 - n.log2)) ((n.log2 : Int) - 52) := by
  have hl : n.log2 < 53 := (Nat.log2_lt (by omega)).2 h1
  have hle := Nat.log2_self_le (n := n) (by omega)
  have hlt : n < 2 ^ (n.log2 + 1) := Nat.lt_log2_self
  generalize hL : n.log2 = L at *
  have hk1 : 2 ^ 52 ≤ n * 2 ^ (52 - L) := by
    calc 2 ^ 52 = 2 ^ L * 2 ^ (52 - L) := by rw [← Nat.pow_add]; congr 1; omega
      _ ≤ n * 2 ^ (52 - L) := Nat.mul_le_mul_right _ hle
  have hk2 : n * 2 ^ (52 - L) < 2 ^ 53 := by
    calc n * 2 ^ (52 - L) < 2 ^ (L + 1) * 2 ^ (52 - L) := Nat.mul_lt_mul_of_pos_right hlt (Nat.two_pow_pos _)
      _ = 2 ^ 53 := by rw [← Nat.pow_add]; congr 1; omega
  have hlast : max ((0 : Int) + (L : Int) - (52 : Nat)) double.leastPlace = (L : Int) - 52 := by
    have : double.leastPlace = -1074 := by decide
    rw [this]; omega
  have hnear : double.nearest false n 0 = (L + 1022) * 2 ^ 52 + n * 2 ^ (52 - L) := by
    unfold Format.nearest
    rw [if_neg (by omega), hL]
    simp only [show double.fractionBits = 52 from rfl]
    rw [hlast]
    have e1 : ((0 : Int) - ((L : Int) - 52)).toNat = 52 - L := by omega
    have e2 : ((L : Int) - 52 - 0).toNat = 0 := by omega
    have e3 : (((L : Int) - 52) - double.leastPlace).toNat = L + 1022 := by
      have : double.leastPlace = -1074 := by decide
      rw [this]; omega
    rw [e1, e2, e3, cut_none, Nat.shiftLeft_eq]
    have e4 : double.binade = 2 ^ 52 := by decide
    have e5 : double.infRung = 2047 * 2 ^ 52 := by decide
    rw [e4, e5, Nat.min_eq_left (by omega)]
    simp [Format.word]
  rw [hnear]
  rw [Nat.shiftLeft_eq]
  generalize n * 2 ^ (52 - L) = k at *
  unfold Format.read
  have e4 : double.binade = 2 ^ 52 := by decide
  have e5 : double.infRung = 2047 * 2 ^ 52 := by decide
  have e6 : double.signWeight = 2 ^ 63 := by decide
  have e7 : double.leastPlace = -1074 := by decide
  simp only [e4, e5, e6, e7]
  have r1 : ((L + 1022) * 2 ^ 52 + k) % 2 ^ 63 = (L + 1022) * 2 ^ 52 + k := Nat.mod_eq_of_lt (by omega)
  have r2 : ((L + 1022) * 2 ^ 52 + k) / 2 ^ 63 = 0 := Nat.div_eq_of_lt (by omega)
  have r3 : ((L + 1022) * 2 ^ 52 + k) % 2 ^ 52 = k - 2 ^ 52 := by omega
  have r4 : ((L + 1022) * 2 ^ 52 + k) / 2 ^ 52 = L + 1023 := by omega
  rw [r1, r2, r3, r4, if_neg (by omega), if_pos (by omega)]
  have r5 : 2 ^ 52 + (k - 2 ^ 52) = k := by omega
  have r6 : (-1074 : Int) + ((L + 1023 - 1 : Nat) : Int) = (L : Int) - 52 := by omega
  rw [r5, r6]
  rfl
theorem read_zero : double.read 0 = .number false 0 (-1074) := by decide
theorem nearest_nat (n : Nat) : f64 (n : Int) = double.nearest false n 0 := by
  unfold f64 floatOfInt FloatKind.nearest FloatKind.encode
  have : decide ((n : Int) < 0) = false := by simp
  rw [this]
  simp [FloatKind.format, Format.write]
theorem nearest_zero : double.nearest false 0 0 = 0 := by decide

/-- what a float that is less than a whole number from 0 to 2^40, and isn't below 0, is cut to -/
theorem cut_below (x C : Nat) (hC : C ≤ 2 ^ 40) (h1 : lt64 x (f64 (C : Int)) = true) (h2 : lt64 x 0 = false) : ∃ n : Nat, floatToIntVal .f64 x .i64 = some (n : Int) ∧ n ≤ C := by
  unfold lt64 at h1 h2
  rw [nearest_nat] at h1
  simp only [FloatKind.format, Format.order] at h1 h2
  rw [read_zero] at h2
  unfold floatToIntVal
  simp only [FloatKind.decode, FloatKind.format]
  rcases hx : double.read x with ⟨s, m, i⟩ | s | ⟨s, f⟩
  · rw [hx] at h1 h2
    -- what it is compared with
    obtain ⟨c, j, hc, hj, hcC⟩ : ∃ (c : Nat) (j : Int), double.read (double.nearest false C 0) = .number false c j ∧ j ≤ 0 ∧ c = C * 2 ^ (-j).toNat := by
      rcases Nat.eq_zero_or_pos C with h0 | h0
      · subst h0
        exact ⟨0, -1074, by rw [nearest_zero, read_zero], by omega, (Nat.zero_mul _).symm⟩
      · have hl : C.log2 < 53 := (Nat.log2_lt (by omega)).2 (by omega)
        refine ⟨_, _, read_f64 C h0 (by omega), by omega, ?_⟩
        rw [Nat.shiftLeft_eq]
        congr 2
        omega
    rw [hc] at h1
    simp only [Datum.order, beq_iff_eq, Option.some.injEq, beq_eq_false_iff_ne, ne_eq] at h1 h2
    have h1' : signed s m (i - min i j).toNat < signed false c (j - min i j).toNat := by
      have := h1
      rw [int_lt] at this
      exact this
    have h2' : ¬ signed s m (i - min i (-1074)).toNat < signed false 0 ((-1074) - min i (-1074)).toNat := by
      intro h
      apply h2
      rw [int_lt]
      exact h
    cases s with
    | true =>
      -- not below 0: it is nought
      have hm : m = 0 := by
        rcases Nat.eq_zero_or_pos m with h | h
        · exact h
        · exfalso
          apply h2'
          simp only [signed, if_true, Bool.false_eq_true, if_false, Nat.zero_shiftLeft]
          have : 0 < m <<< (i - min i (-1074)).toNat := by rw [Nat.shiftLeft_eq]; exact Nat.mul_pos h (Nat.two_pow_pos _)
          omega
      subst hm
      refine ⟨0, ?_, Nat.zero_le _⟩
      simp [Datum.toInt, Datum.integral, Toward.cut, signed, IntKind.min, IntKind.max, IntKind.signed, IntKind.bits]
    | false =>
      simp only [signed, Bool.false_eq_true, if_false] at h1'
      have h3 : m <<< (i - min i j).toNat < c <<< (j - min i j).toNat := by omega
      clear h1 h2 h1' h2' hc hx
      rw [Nat.shiftLeft_eq, Nat.shiftLeft_eq] at h3
      -- the number cut is at most C
      have hn : Toward.zero.cut false (m <<< i.toNat) (-i).toNat ≤ C := by
        unfold Toward.cut
        simp only [Bool.toNat_false, Nat.add_zero, Nat.shiftLeft_eq, Nat.one_mul]
        rcases Int.le_total 0 i with hi | hi
        · have e1 : (-i).toNat = 0 := by omega
          rw [e1, Nat.zero_min, Nat.pow_zero, Nat.div_one]
          have e2 : (j - min i j).toNat = 0 := by omega
          have e3 : (i - min i j).toNat = i.toNat + (-j).toNat := by omega
          rw [e2, e3, hcC, Nat.pow_zero, Nat.mul_one, Nat.pow_add, ← Nat.mul_assoc] at h3
          exact Nat.le_of_lt (Nat.lt_of_mul_lt_mul_right h3)
        · have e1 : i.toNat = 0 := by omega
          rw [e1, Nat.pow_zero, Nat.mul_one]
          have h4 : m < C * 2 ^ (-i).toNat := by
            rcases Int.le_total i j with hij | hij
            · have e2 : (i - min i j).toNat = 0 := by omega
              have e3 : (j - min i j).toNat + (-j).toNat = (-i).toNat := by omega
              rw [e2, hcC, Nat.pow_zero, Nat.mul_one, Nat.mul_assoc, ← Nat.pow_add, Nat.add_comm (-j).toNat, e3] at h3
              exact h3
            · have e2 : (j - min i j).toNat = 0 := by omega
              have e3 : (-j).toNat = (-i).toNat + (i - min i j).toNat := by omega
              rw [e2, hcC, Nat.pow_zero, Nat.mul_one, e3, Nat.pow_add, ← Nat.mul_assoc] at h3
              exact Nat.lt_of_mul_lt_mul_right h3
          rcases Nat.le_total (-i).toNat (m.log2 + 2) with hd | hd
          · rw [Nat.min_eq_left hd]
            exact Nat.le_of_lt ((Nat.div_lt_iff_lt_mul (Nat.two_pow_pos _)).2 h4)
          · rw [Nat.min_eq_right hd]
            have : m < 2 ^ (m.log2 + 2) := Nat.lt_of_lt_of_le Nat.lt_log2_self (Nat.pow_le_pow_right (by omega) (by omega))
            rw [Nat.div_eq_of_lt this]
            exact Nat.zero_le _
      refine ⟨Toward.zero.cut false (m <<< i.toNat) (-i).toNat, ?_, hn⟩
      have ht : Datum.toInt .zero (.number false m i) = some ((Toward.zero.cut false (m <<< i.toNat) (-i).toNat : Nat) : Int) := by
        simp [Datum.toInt, Datum.integral, signed]
      rw [ht]
      generalize Toward.zero.cut false (m <<< i.toNat) (-i).toNat = k at hn
      have hb : IntKind.i64.min ≤ (k : Int) ∧ (k : Int) ≤ IntKind.i64.max := by
        have e1 : IntKind.i64.min = -9223372036854775808 := by decide
        have e2 : IntKind.i64.max = 9223372036854775807 := by decide
        rw [e1, e2]
        omega
      simp only [if_pos hb]
  · rw [hx] at h2
    cases s
    · cases hr : double.read (double.nearest false C 0) <;> rw [hx, hr] at h1 <;> simp [Datum.order] at h1
      exact absurd (Nat.compare_eq_lt.1 h1) (by omega)
    · simp [Datum.order] at h2
  · rw [hx] at h1
    simp [Datum.order] at h1

/-- the bits of what is no number, as the model draws them -/
theorem lt_nan (a b t y : Nat) : lt64 (Question.cut (.nanBits .f64 a b) t) y = false := by
  have e4 : double.binade = 2 ^ 52 := by decide
  have e5 : double.infRung = 2047 * 2 ^ 52 := by decide
  have e6 : double.signWeight = 2 ^ 63 := by decide
  unfold lt64
  simp only [FloatKind.format, Format.order, Question.cut]
  have hr : t / 2 % (2 ^ 52 - 1) < 2 ^ 52 - 1 := Nat.mod_lt _ (by decide)
  generalize t / 2 % (2 ^ 52 - 1) = r at *
  have ht : t % 2 = 0 ∨ t % 2 = 1 := by omega
  generalize t % 2 = u at *
  have h1 : (u * 2 ^ 63 + 9218868437227405312 + 1 + r) % 2 ^ 63 = 9218868437227405312 + 1 + r := by omega
  have hread : ∃ s f, double.read (u * 2 ^ 63 + 9218868437227405312 + 1 + r) = .nan s f := by
    unfold Format.read
    simp only [e4, e5, e6, h1]
    rw [if_neg (by omega), if_neg (by omega), if_neg (by omega)]
    exact ⟨_, _, rfl⟩
  obtain ⟨s, f, hread⟩ := hread
  rw [hread]
  rfl

theorem run_mul_nan {P : Program} (w : World) (t : TypeId) (x y : Nat) (h : floatBits .mul .f64 x y = none) :
    (binOp .mul t (.float .f64 x) (.float .f64 y)).run P w = .ok (.float .f64 (Question.cut (.nanBits .f64 x y) (w.tape w.drawn (.nanBits .f64 x y)))) w.drew := by
  unfold floatBits at h
  simp only at h
  simp [binOp, Op.floatArith, h, Question.forced]
theorem mul_nan {P : Program} (w : World) (t : TypeId) (x y : Nat) (h : floatBits .mul .f64 x y = none) :
    ∃ b, (∀ z, lt64 b z = false) ∧ (binOp .mul t (.float .f64 x) (.float .f64 y)).run P w = .ok (.float .f64 b) w.drew :=
  ⟨_, lt_nan _ _ _, run_mul_nan w t x y h⟩
end Go.Proofs.Ytikobhbknnlgbaa
