/- Plain facts on floats of 64 bits: what is at most a float is rounded to a word that is at most its. -/
import Derived.Test.YtikobhbknnlgbaaFloat4
namespace Go.Proofs.Ytikobhbknnlgbaa
open Ieee

theorem cut_le (n d K : Nat) (h : n ≤ K * 2 ^ d) : Toward.even.cut false n d ≤ K := by
  unfold Toward.cut
  simp only [Nat.shiftLeft_eq, Nat.one_mul]
  rcases Nat.le_total d (n.log2 + 2) with hd | hd
  · rw [Nat.min_eq_left hd]
    have hp : 0 < 2 ^ d := Nat.two_pow_pos d
    generalize 2 ^ d = g at *
    have hdm := Nat.div_add_mod n g
    have hm := Nat.mod_lt n hp
    rcases Nat.lt_or_ge (n / g) K with hlt | hge
    · have : ((decide (g < 2 * (n % g)) || (g == 2 * (n % g) && n / g % 2 == 1)) : Bool).toNat ≤ 1 := Bool.toNat_le _
      omega
    · have h1 : K * g ≤ g * (n / g) := by rw [Nat.mul_comm]; exact Nat.mul_le_mul_left _ hge
      have h0 : n % g = 0 := by omega
      have h2 : n / g = K := by
        rcases Nat.eq_or_lt_of_le hge with e | e
        · exact e.symm
        · have h3 : g * (K + 1) ≤ g * (n / g) := Nat.mul_le_mul_left _ e
          rw [Nat.mul_add, Nat.mul_one, Nat.mul_comm g K] at h3
          omega
      rw [h0, h2]
      have h5 : decide (g < 2 * 0) = false := by simp
      have h6 : (g == 2 * 0) = false := by rw [beq_eq_false_iff_ne]; omega
      rw [h5, h6]
      simp
  · rw [Nat.min_eq_right hd]
    rcases Nat.eq_zero_or_pos n with h0 | h0
    · subst h0; simp
    · have h1 : n < 2 ^ (n.log2 + 1) := Nat.lt_log2_self
      have h2 : 2 ^ (n.log2 + 2) = 2 * 2 ^ (n.log2 + 1) := by rw [Nat.pow_succ 2 (n.log2 + 1)]; omega
      generalize 2 ^ (n.log2 + 2) = g at *
      have h3 : n / g = 0 := Nat.div_eq_of_lt (by omega)
      have h4 : n % g = n := Nat.mod_eq_of_lt (by omega)
      rw [h3, h4]
      have h5 : decide (g < 2 * n) = false := by simp; omega
      have h6 : (g == 2 * n) = false := by rw [beq_eq_false_iff_ne]; omega
      rw [h5, h6]
      simp
/-- a number that is at most a float is rounded to a word that is at most its -/
theorem nearest_le (x M N q : Nat) (p : Int) (hp : (q : Int) = p + 1074 + N) (h : M * 2 ^ q ≤ mag x * 2 ^ (exs x + N)) : double.nearest false M p ≤ x := by
  obtain ⟨e4, e5, e6, e7, e8⟩ := consts
  unfold Format.nearest
  rcases Nat.eq_zero_or_pos M with h0 | h0
  · subst h0
    rw [if_pos rfl]
    exact Nat.zero_le _
  · rw [if_neg (by omega)]
    simp only [e4, e5, e7, e8]
    have hw : ∀ r, double.word false r = r := fun _ => rfl
    rw [hw]
    have hlog1 : 2 ^ M.log2 ≤ M := Nat.log2_self_le (by omega)
    have hlog2 : M < 2 ^ (M.log2 + 1) := Nat.lt_log2_self
    generalize M.log2 = G at *
    obtain ⟨L, hL⟩ : ∃ L : Nat, (L : Int) - 1074 = max (p + (G : Int) - ((52 : Nat) : Int)) (-1074) := ⟨(max (p + (G : Int) - ((52 : Nat) : Int)) (-1074) + 1074).toNat, by omega⟩
    rw [← hL]
    have t1 : (p - ((L : Int) - 1074)).toNat = q - (L + N) := by omega
    have t2 : ((L : Int) - 1074 - p).toNat = L + N - q := by omega
    have t3 : ((L : Int) - 1074 - -1074).toNat = L := by omega
    rw [t1, t2, t3, Nat.shiftLeft_eq]
    have hwe := word_eq x
    have hml := mag_lt x
    refine Nat.le_trans (Nat.min_le_left _ _) ?_
    -- what is cut is at most what the shifted one is
    have hcut : ∀ K, M * 2 ^ q ≤ K * 2 ^ (L + N) → Toward.even.cut false (M * 2 ^ (q - (L + N))) (L + N - q) ≤ K := fun K hK => by
      refine cut_le _ _ K ?_
      rcases Nat.le_total q (L + N) with hq | hq
      · rw [show q - (L + N) = 0 by omega, Nat.pow_zero, Nat.mul_one]
        have : M * 2 ^ q ≤ K * 2 ^ (L + N - q) * 2 ^ q := by rw [Nat.mul_assoc, ← Nat.pow_add, show L + N - q + q = L + N by omega]; exact hK
        exact Nat.le_of_mul_le_mul_right this (Nat.two_pow_pos q)
      · rw [show L + N - q = 0 by omega, Nat.pow_zero, Nat.mul_one]
        have : M * 2 ^ (q - (L + N)) * 2 ^ (L + N) ≤ K * 2 ^ (L + N) := by rw [Nat.mul_assoc, ← Nat.pow_add, show q - (L + N) + (L + N) = q by omega]; exact hK
        exact Nat.le_of_mul_le_mul_right this (Nat.two_pow_pos _)
    have hLE : L ≤ exs x := by
      rcases Nat.eq_zero_or_pos L with hL0 | hL0
      · omega
      · have h1 : 2 ^ (G + q) < 2 ^ (53 + (exs x + N)) := by
          calc 2 ^ (G + q) = 2 ^ G * 2 ^ q := by rw [Nat.pow_add]
            _ ≤ M * 2 ^ q := Nat.mul_le_mul_right _ hlog1
            _ ≤ mag x * 2 ^ (exs x + N) := h
            _ < 9007199254740992 * 2 ^ (exs x + N) := Nat.mul_lt_mul_of_pos_right hml (Nat.two_pow_pos _)
            _ = 2 ^ (53 + (exs x + N)) := by rw [Nat.pow_add 2 53 (exs x + N)]
        have h2 := (Nat.pow_lt_pow_iff_right (a := 2) (by omega)).1 h1
        omega
    rcases Nat.lt_or_ge L (exs x) with hlt | hge
    · have h1 := hcut 9007199254740992 (by
        have hg : G + 1 + q ≤ 53 + (L + N) := by omega
        calc M * 2 ^ q ≤ 2 ^ (G + 1) * 2 ^ q := Nat.mul_le_mul_right _ (Nat.le_of_lt hlog2)
          _ = 2 ^ (G + 1 + q) := by rw [← Nat.pow_add]
          _ ≤ 2 ^ (53 + (L + N)) := Nat.pow_le_pow_right (by omega) hg
          _ = 9007199254740992 * 2 ^ (L + N) := by rw [Nat.pow_add 2 53 (L + N)])
      have hm := mag_ge x (by omega)
      have h2 : (L + 1) * 4503599627370496 ≤ exs x * 4503599627370496 := Nat.mul_le_mul_right _ hlt
      omega
    · have hEL : exs x = L := by omega
      have h1 := hcut (mag x) (by rw [← hEL]; exact h)
      rw [hEL] at hwe
      omega
/-- a half of a float, but of the least one, is at most the next smaller float -/
theorem V_half (x : Nat) (h : 2 ≤ x) : V x ≤ 2 * V (x - 1) := by
  have h1 := word_eq x
  have h2 := word_eq (x - 1)
  have m1 := mag_lt x
  have m2 := mag_lt (x - 1)
  unfold V
  rcases Nat.eq_zero_or_pos (exs x) with e | e
  · have e2 : exs (x - 1) = 0 := by
      rcases Nat.eq_zero_or_pos (exs (x - 1)) with q | q
      · exact q
      · have := mag_ge (x - 1) q
        rw [e] at h1
        have : 1 * 4503599627370496 ≤ exs (x - 1) * 4503599627370496 := Nat.mul_le_mul_right _ q
        omega
    rw [e] at h1
    rw [e2] at h2
    rw [e, e2]
    simp only [Nat.pow_zero, Nat.mul_one]
    omega
  · have g1 := mag_ge x e
    rcases Nat.lt_or_ge (exs (x - 1)) (exs x) with q | q
    · have e2 : exs x = exs (x - 1) + 1 := by
        have : exs (x - 1) * 4503599627370496 + mag (x - 1) + 1 = exs x * 4503599627370496 + mag x := by omega
        have a : (exs (x - 1) + 1) * 4503599627370496 ≤ exs x * 4503599627370496 := Nat.mul_le_mul_right _ q
        rcases Nat.lt_or_ge (exs (x - 1) + 1) (exs x) with z | z
        · have b : (exs (x - 1) + 1 + 1) * 4503599627370496 ≤ exs x * 4503599627370496 := Nat.mul_le_mul_right _ z
          omega
        · omega
      rw [e2] at h1 ⊢
      have hm : mag x ≤ mag (x - 1) := by omega
      rw [Nat.pow_succ]
      calc mag x * (2 ^ exs (x - 1) * 2) = 2 * (mag x * 2 ^ exs (x - 1)) := by ac_rfl
        _ ≤ 2 * (mag (x - 1) * 2 ^ exs (x - 1)) := Nat.mul_le_mul_left _ (Nat.mul_le_mul_right _ hm)
    · have e2 : exs (x - 1) = exs x := by
        rcases Nat.lt_or_ge (exs x) (exs (x - 1)) with z | z
        · have a : (exs x + 1) * 4503599627370496 ≤ exs (x - 1) * 4503599627370496 := Nat.mul_le_mul_right _ z
          have := mag_ge (x - 1) (by omega)
          omega
        · omega
      rw [e2] at h2 ⊢
      have hm : mag x ≤ 2 * mag (x - 1) := by omega
      calc mag x * 2 ^ exs x ≤ 2 * mag (x - 1) * 2 ^ exs x := Nat.mul_le_mul_right _ hm
        _ = 2 * (mag (x - 1) * 2 ^ exs x) := by ac_rfl
end Go.Proofs.Ytikobhbknnlgbaa
