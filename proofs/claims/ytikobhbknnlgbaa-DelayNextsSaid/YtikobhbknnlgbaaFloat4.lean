/- Plain facts on floats of 64 bits that aren't below 0: their words are in their order; a product with a factor from 1 on doesn't fall. -/
import Derived.Test.YtikobhbknnlgbaaFloat3
namespace Go.Proofs.Ytikobhbknnlgbaa
open Ieee

def mag (x : Nat) : Nat := if x < 4503599627370496 then x else 4503599627370496 + x % 4503599627370496
def exs (x : Nat) : Nat := if x < 4503599627370496 then 0 else x / 4503599627370496 - 1
/-- the value, in units of the least float -/
def V (x : Nat) : Nat := mag x * 2 ^ exs x

theorem consts : double.binade = 4503599627370496 ∧ double.infRung = 9218868437227405312 ∧ double.signWeight = 9223372036854775808 ∧ double.leastPlace = -1074 ∧ double.fractionBits = 52 := by decide

theorem read_word (x : Nat) (h : x < 9218868437227405312) : double.read x = .number false (mag x) (-1074 + (exs x : Int)) := by
  obtain ⟨e4, e5, e6, e7, _⟩ := consts
  unfold Format.read mag exs
  simp only [e4, e5, e6, e7]
  have h1 : x % 9223372036854775808 = x := Nat.mod_eq_of_lt (by omega)
  have h2 : x / 9223372036854775808 = 0 := Nat.div_eq_of_lt (by omega)
  rw [h1, h2]
  by_cases hx : x < 4503599627370496
  · rw [if_pos hx, if_pos hx, if_pos hx]
    rfl
  · rw [if_neg hx, if_neg hx, if_neg hx, if_pos h]
    rfl

theorem V_mono {x y : Nat} (h : x ≤ y) : V x ≤ V y := by
  unfold V mag exs
  by_cases hx : x < 4503599627370496
  · rw [if_pos hx, if_pos hx, Nat.pow_zero, Nat.mul_one]
    by_cases hy : y < 4503599627370496
    · rw [if_pos hy, if_pos hy, Nat.pow_zero, Nat.mul_one]
      exact h
    · rw [if_neg hy, if_neg hy]
      have h1 : 0 < 2 ^ (y / 4503599627370496 - 1) := Nat.two_pow_pos _
      exact Nat.le_trans (by omega) (Nat.le_mul_of_pos_right _ h1)
  · have hy : ¬ y < 4503599627370496 := by omega
    rw [if_neg hx, if_neg hx, if_neg hy, if_neg hy]
    rcases Nat.lt_or_ge (x / 4503599627370496) (y / 4503599627370496) with hq | hq
    · have h1 : 4503599627370496 + x % 4503599627370496 ≤ 4503599627370496 * 2 := by omega
      calc (4503599627370496 + x % 4503599627370496) * 2 ^ (x / 4503599627370496 - 1)
          ≤ 4503599627370496 * 2 * 2 ^ (x / 4503599627370496 - 1) := Nat.mul_le_mul_right _ h1
        _ = 4503599627370496 * 2 ^ (x / 4503599627370496 - 1 + 1) := by rw [Nat.pow_succ, Nat.mul_assoc, Nat.mul_comm 2]
        _ ≤ 4503599627370496 * 2 ^ (y / 4503599627370496 - 1) := Nat.mul_le_mul_left _ (Nat.pow_le_pow_right (by omega) (by omega))
        _ ≤ (4503599627370496 + y % 4503599627370496) * 2 ^ (y / 4503599627370496 - 1) := Nat.mul_le_mul_right _ (by omega)
    · have he : x / 4503599627370496 = y / 4503599627370496 := by omega
      rw [he]
      exact Nat.mul_le_mul_right _ (by omega)

theorem scale (m n a b : Nat) : m * 2 ^ (a - min a b) < n * 2 ^ (b - min a b) ↔ m * 2 ^ a < n * 2 ^ b := by
  have h := Nat.mul_lt_mul_right (a := 2 ^ min a b) (Nat.two_pow_pos (min a b)) (b := m * 2 ^ (a - min a b)) (c := n * 2 ^ (b - min a b))
  rw [Nat.mul_assoc, Nat.mul_assoc, ← Nat.pow_add, ← Nat.pow_add, show a - min a b + min a b = a by omega, show b - min a b + min a b = b by omega] at h
  exact h.symm

theorem lt_word (x y : Nat) (hx : x < 9218868437227405312) (hy : y < 9218868437227405312) : lt64 x y = decide (V x < V y) := by
  unfold lt64
  simp only [FloatKind.format, Format.order]
  rw [read_word x hx, read_word y hy]
  unfold V
  generalize mag x = m
  generalize mag y = n
  generalize exs x = a
  generalize exs y = b
  simp only [Datum.order, signed, Bool.false_eq_true, if_false, Nat.shiftLeft_eq]
  have e1 : ((-1074 : Int) + (a : Int) - min (-1074 + (a : Int)) (-1074 + (b : Int))).toNat = a - min a b := by omega
  have e2 : ((-1074 : Int) + (b : Int) - min (-1074 + (a : Int)) (-1074 + (b : Int))).toNat = b - min a b := by omega
  rw [e1, e2]
  have hs := scale m n a b
  revert hs
  generalize m * 2 ^ (a - min a b) = X
  generalize n * 2 ^ (b - min a b) = Y
  intro hs
  by_cases h : m * 2 ^ a < n * 2 ^ b
  · rw [decide_eq_true h, (int_lt _ _).2 (Int.ofNat_lt.2 (hs.2 h))]
    rfl
  · rw [decide_eq_false h]
    have hn : compare (X : Int) (Y : Int) ≠ .lt := fun hh => h (hs.1 (Int.ofNat_lt.1 ((int_lt _ _).1 hh)))
    cases hc : compare (X : Int) (Y : Int) with
    | lt => exact absurd hc hn
    | eq => rfl
    | gt => rfl

theorem cut_ge (neg : Bool) (n d : Nat) : n / 2 ^ d ≤ Toward.even.cut neg n d := by
  unfold Toward.cut
  simp only [Nat.shiftLeft_eq, Nat.one_mul]
  refine Nat.le_trans ?_ (Nat.le_add_right _ _)
  exact Nat.div_le_div_left (Nat.pow_le_pow_right (by omega) (Nat.min_le_left _ _)) (Nat.two_pow_pos _)

theorem div_shift (M a b : Nat) : M * 2 ^ (a - b) / 2 ^ (b - a) = M * 2 ^ a / 2 ^ b := by
  rcases Nat.le_total b a with h | h
  · rw [show b - a = 0 by omega, Nat.pow_zero, Nat.div_one, show M * 2 ^ a = M * 2 ^ (a - b) * 2 ^ b by rw [Nat.mul_assoc, ← Nat.pow_add, show a - b + b = a by omega], Nat.mul_div_cancel _ (Nat.two_pow_pos b)]
  · rw [show a - b = 0 by omega, Nat.pow_zero, Nat.mul_one, show 2 ^ b = 2 ^ (b - a) * 2 ^ a by rw [← Nat.pow_add, show b - a + a = b by omega], Nat.mul_div_mul_right _ _ (Nat.two_pow_pos a)]

theorem word_eq (x : Nat) : x = exs x * 4503599627370496 + mag x := by
  unfold exs mag
  by_cases h : x < 4503599627370496
  · rw [if_pos h, if_pos h]; omega
  · rw [if_neg h, if_neg h]; omega
theorem mag_lt (x : Nat) : mag x < 9007199254740992 := by
  unfold mag
  split <;> omega
theorem mag_ge (x : Nat) (h : 0 < exs x) : 4503599627370496 ≤ mag x := by
  unfold exs at h
  unfold mag
  split
  · rename_i hx
    rw [if_pos hx] at h
    omega
  · omega

/-- a number that isn't less than a float is rounded to a word that isn't less -/
theorem nearest_ge (x M N q : Nat) (p : Int) (hx : x < 9218868437227405312) (hp : (q : Int) = p + 1074 + N) (h : mag x * 2 ^ (exs x + N) ≤ M * 2 ^ q) : x ≤ double.nearest false M p ∧ double.nearest false M p ≤ 9218868437227405312 := by
  obtain ⟨e4, e5, e6, e7, e8⟩ := consts
  unfold Format.nearest
  rcases Nat.eq_zero_or_pos M with h0 | h0
  · subst h0
    rw [if_pos rfl]
    rw [Nat.zero_mul] at h
    have hm : mag x = 0 := by
      rcases Nat.eq_zero_or_pos (mag x) with hm | hm
      · exact hm
      · exact absurd h (Nat.not_le.2 (Nat.mul_pos hm (Nat.two_pow_pos _)))
    have hE : exs x = 0 := by
      rcases Nat.eq_zero_or_pos (exs x) with hE | hE
      · exact hE
      · have := mag_ge x hE
        omega
    have := word_eq x
    rw [hm, hE] at this
    subst this
    exact ⟨Nat.zero_le _, Nat.zero_le _⟩
  · rw [if_neg (by omega)]
    simp only [e4, e5, e7, e8]
    have hw : ∀ r, double.word false r = r := fun _ => rfl
    rw [hw]
    have hlog1 : 2 ^ M.log2 ≤ M := Nat.log2_self_le (by omega)
    have hlog2 : M < 2 ^ (M.log2 + 1) := Nat.lt_log2_self
    generalize M.log2 = G at *
    obtain ⟨L, hL⟩ : ∃ L : Nat, (L : Int) - 1074 = max (p + (G : Int) - ((52 : Nat) : Int)) (-1074) := ⟨(max (p + (G : Int) - ((52 : Nat) : Int)) (-1074) + 1074).toNat, by omega⟩
    rw [← hL]
    have t1 : (p - ((L : Int) - 1074)).toNat = q - (L + N) := by omega
    have t2 : ((L : Int) - 1074 - p).toNat = L + N - q := by omega
    have t3 : ((L : Int) - 1074 - -1074).toNat = L := by omega
    rw [t1, t2, t3, Nat.shiftLeft_eq]
    have hk := cut_ge false (M * 2 ^ (q - (L + N))) (L + N - q)
    rw [div_shift] at hk
    generalize Toward.even.cut false (M * 2 ^ (q - (L + N))) (L + N - q) = kept at *
    refine ⟨?_, Nat.min_le_right _ _⟩
    refine Nat.le_min.2 ⟨?_, by omega⟩
    have hwe := word_eq x
    have hml := mag_lt x
    -- the places
    have hLE : exs x ≤ L := by
      rcases Nat.eq_zero_or_pos (exs x) with hE | hE
      · omega
      · have hm := mag_ge x hE
        have h1 : 2 ^ (52 + (exs x + N)) < 2 ^ (G + 1 + q) := by
          calc 2 ^ (52 + (exs x + N)) = 4503599627370496 * 2 ^ (exs x + N) := by rw [Nat.pow_add]
            _ ≤ mag x * 2 ^ (exs x + N) := Nat.mul_le_mul_right _ hm
            _ ≤ M * 2 ^ q := h
            _ < 2 ^ (G + 1) * 2 ^ q := Nat.mul_lt_mul_of_pos_right hlog2 (Nat.two_pow_pos q)
            _ = 2 ^ (G + 1 + q) := by rw [← Nat.pow_add]
        have h2 := (Nat.pow_lt_pow_iff_right (a := 2) (by omega)).1 h1
        omega
    rcases Nat.lt_or_ge (exs x) L with hlt | hge
    · have h1 : 4503599627370496 ≤ M * 2 ^ q / 2 ^ (L + N) := by
        rw [Nat.le_div_iff_mul_le (Nat.two_pow_pos _)]
        have hg : 52 + (L + N) = G + q := by omega
        calc 4503599627370496 * 2 ^ (L + N) = 2 ^ (52 + (L + N)) := by rw [Nat.pow_add 2 52 (L + N)]
          _ = 2 ^ G * 2 ^ q := by rw [hg, Nat.pow_add]
          _ ≤ M * 2 ^ q := Nat.mul_le_mul_right _ hlog1
      have h2 : (exs x + 1) * 4503599627370496 ≤ L * 4503599627370496 := Nat.mul_le_mul_right _ hlt
      omega
    · have hEL : exs x = L := by omega
      have h1 : mag x ≤ M * 2 ^ q / 2 ^ (L + N) := by
        rw [Nat.le_div_iff_mul_le (Nat.two_pow_pos _), ← hEL]
        exact h
      rw [hEL] at hwe
      omega
end Go.Proofs.Ytikobhbknnlgbaa
