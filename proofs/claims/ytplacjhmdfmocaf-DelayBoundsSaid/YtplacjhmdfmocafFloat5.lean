/- Layer 12: of a factor from 1 on a delay never falls. -/
import Derived.Test.YtplacjhmdfmocafFloat4
namespace Go.Proofs.Ytplacjhmdfmocaf
open Ieee

theorem mul_grows (x F r T : Nat) (hT : T = 1074) (hx : x < 9218868437227405312) (hF : F < 9218868437227405312) (h1 : 2 ^ T ≤ V F) (hr : floatBits .mul .f64 x F = some r) : x ≤ r ∧ r ≤ 9218868437227405312 := by
  have hr' : double.mul x F = some r := hr
  unfold Format.mul at hr'
  rw [read_word x hx, read_word F hF] at hr'
  simp only [Datum.product, Option.map_some, Format.write, Bool.xor_self, Option.some.injEq] at hr'
  subst hr'
  refine nearest_ge x (mag x * mag F) T (exs x + exs F) _ hx (by subst hT; omega) ?_
  unfold V at h1
  calc mag x * 2 ^ (exs x + T) = mag x * 2 ^ exs x * 2 ^ T := by rw [Nat.pow_add, Nat.mul_assoc]
    _ ≤ mag x * 2 ^ exs x * (mag F * 2 ^ exs F) := Nat.mul_le_mul_left _ h1
    _ = mag x * mag F * 2 ^ (exs x + exs F) := by rw [Nat.pow_add]; ac_rfl

theorem mul_inf (x r : Nat) (hx : x < 9218868437227405312) (hr : floatBits .mul .f64 x 9218868437227405312 = some r) : r = 9218868437227405312 := by
  have hr' : double.mul x 9218868437227405312 = some r := hr
  unfold Format.mul at hr'
  rw [read_word x hx, read_inf] at hr'
  simp only [Datum.product] at hr'
  split at hr'
  · cases hr'
  · cases hr'
    rfl

theorem cut_floor (n d : Nat) : Toward.zero.cut false n d = n / 2 ^ d := by
  unfold Toward.cut
  simp only [Bool.toNat_false, Nat.add_zero, Nat.shiftLeft_eq, Nat.one_mul]
  rcases Nat.le_total d (n.log2 + 2) with h | h
  · rw [Nat.min_eq_left h]
  · rw [Nat.min_eq_right h]
    have h1 : n < 2 ^ (n.log2 + 2) := Nat.lt_of_lt_of_le Nat.lt_log2_self (Nat.pow_le_pow_right (by omega) (by omega))
    rw [Nat.div_eq_of_lt h1, Nat.div_eq_of_lt (Nat.lt_of_lt_of_le h1 (Nat.pow_le_pow_right (by omega) h))]

theorem cut_word (x T n : Nat) (hT : T = 1074) (hx : x < 9218868437227405312) (h : floatToIntVal .f64 x .i64 = some (n : Int)) : n = V x / 2 ^ T := by
  unfold floatToIntVal at h
  simp only [FloatKind.decode, FloatKind.format] at h
  rw [read_word x hx] at h
  have hd : Datum.toInt .zero (.number false (mag x) (-1074 + (exs x : Int))) = some ((V x / 2 ^ T : Nat) : Int) := by
    have e1 : ((-1074 : Int) + (exs x : Int)).toNat = exs x - T := by subst hT; omega
    have e2 : (-((-1074 : Int) + (exs x : Int))).toNat = T - exs x := by subst hT; omega
    simp only [Datum.toInt, Datum.integral, e1, e2, signed, Bool.false_eq_true, if_false, Nat.shiftLeft_eq, Nat.pow_zero, Nat.mul_one, cut_floor]
    rw [div_shift]
    rfl
  rw [hd] at h
  simp only at h
  split at h
  · exact Int.ofNat_inj.1 (Option.some.inj h).symm
  · cases h

theorem V_zero : V 0 = 0 := by decide
theorem f64_lt (C : Nat) (hC : C ≤ 2 ^ 40) : f64 (C : Int) < 9218868437227405312 := by
  rcases Nat.lt_or_ge (f64 (C : Int)) 9218868437227405312 with h | h
  · exact h
  · exfalso
    have h1 := lt_nat C (2 ^ 41) (by omega) (by omega)
    rw [decide_eq_true (by omega)] at h1
    have hle : f64 (C : Int) ≤ 9218868437227405312 := by
      obtain ⟨T, hT⟩ : ∃ T : Nat, T = 1074 := ⟨_, rfl⟩
      have hm : mag 0 = 0 := by decide
      rw [nearest_nat]
      exact (nearest_ge 0 C 0 T 0 (by omega) (by subst hT; omega) (by rw [hm, Nat.zero_mul]; exact Nat.zero_le _)).2
    have he : f64 (C : Int) = 9218868437227405312 := by omega
    rw [he, lt_inf] at h1
    cases h1

theorem goD_le0 (F C x y : Nat) (hC : C ≤ 2 ^ 40) (hxy : x ≤ y) (hx : x < 9218868437227405312) (hy : y ≤ 9218868437227405312) : goD F (f64 (C : Int)) (C : Int) 0 x ≤ goD F (f64 (C : Int)) (C : Int) 0 y := by
  have hb := goD_bounds F C hC 0 x
  obtain ⟨T, hT⟩ : ∃ T : Nat, T = 1074 := ⟨_, rfl⟩
  cases hl : lt64 y (f64 (C : Int)) with
  | false => rw [goD_stop hl 0]; exact hb.2
  | true =>
    have hy2 : y < 9218868437227405312 := by
      rcases Nat.lt_or_ge y 9218868437227405312 with h | h
      · exact h
      · have he : y = 9218868437227405312 := by omega
        rw [he, lt_inf] at hl
        cases hl
    have hlx : lt64 x (f64 (C : Int)) = true := by
      rw [lt_word x _ hx (f64_lt C hC)]
      rw [lt_word y _ hy2 (f64_lt C hC)] at hl
      exact decide_eq_true (Nat.lt_of_le_of_lt (V_mono hxy) (of_decide_eq_true hl))
    have hzx : lt64 x 0 = false := by rw [lt_word x 0 hx (by omega), V_zero]; simp
    have hzy : lt64 y 0 = false := by rw [lt_word y 0 hy2 (by omega), V_zero]; simp
    obtain ⟨n, hn, _⟩ := cut_below x C hC hlx hzx
    obtain ⟨m, hm, _⟩ := cut_below y C hC hl hzy
    have en := cut_word x T n hT hx hn
    have em := cut_word y T m hT hy2 hm
    unfold goD
    rw [hlx, hl, hzx, hzy, hn, hm]
    simp only [if_true, Bool.false_eq_true, if_false, Option.getD_some]
    rw [en, em]
    exact Int.ofNat_le.2 (Nat.div_le_div_right (V_mono hxy))

/-- a factor from 1 on -/
def big (F : Nat) : Prop := F = 9218868437227405312 ∨ (F < 9218868437227405312 ∧ ∀ T, T = 1074 → 2 ^ T ≤ V F)

theorem big_mul {F x r : Nat} (hF : big F) (hx : x < 9218868437227405312) (hr : floatBits .mul .f64 x F = some r) : x ≤ r ∧ r ≤ 9218868437227405312 := by
  rcases hF with rfl | ⟨h1, h2⟩
  · have := mul_inf x r hx hr
    omega
  · obtain ⟨T, hT⟩ : ∃ T : Nat, T = 1074 := ⟨_, rfl⟩
    exact mul_grows x F r T hT hx h1 (h2 T hT) hr

theorem goD_mono (F C : Nat) (hC : C ≤ 2 ^ 40) (hF : big F) : ∀ (k x : Nat), x ≤ 9218868437227405312 → goD F (f64 (C : Int)) (C : Int) k x ≤ goD F (f64 (C : Int)) (C : Int) (k + 1) x
  | k, x, hx => by
    cases hl : lt64 x (f64 (C : Int)) with
    | false => rw [goD_stop hl, goD_stop hl]; exact Int.le_refl _
    | true =>
      have hx2 : x < 9218868437227405312 := by
        rcases Nat.lt_or_ge x 9218868437227405312 with h | h
        · exact h
        · have he : x = 9218868437227405312 := by omega
          rw [he, lt_inf] at hl
          cases hl
      cases hm : floatBits .mul .f64 x F with
      | none =>
        have hb := (goD_bounds F C hC k x).2
        have e : goD F (f64 (C : Int)) (C : Int) (k + 1) x = C := by
          rw [goD, hl, hm]
          rfl
        rw [e]
        exact hb
      | some r =>
        have hg := big_mul hF hx2 hm
        have e : goD F (f64 (C : Int)) (C : Int) (k + 1) x = goD F (f64 (C : Int)) (C : Int) k r := by
          rw [goD, hl, hm]
          rfl
        rw [e]
        cases k with
        | zero => exact goD_le0 F C x r hC hg.1 hx2 hg.2
        | succ k =>
          have e2 : goD F (f64 (C : Int)) (C : Int) (k + 1) x = goD F (f64 (C : Int)) (C : Int) k r := by
            rw [goD, hl, hm]
            rfl
          rw [e2]
          exact goD_mono F C hC hF k r hg.2

theorem nextD_mono (b C F n : Nat) (hb : b ≤ 2 ^ 40) (hC : C ≤ 2 ^ 40) (hF : big F) : nextD (b : Int) (C : Int) F n ≤ nextD (b : Int) (C : Int) F (n + 1) := by
  unfold nextD
  rcases Nat.lt_or_ge n 1000 with h | h
  · rw [show min n 1000 = n by omega, show min (n + 1) 1000 = n + 1 by omega]
    exact goD_mono F C hC hF n _ (Nat.le_of_lt (f64_lt b hb))
  · rw [show min n 1000 = 1000 by omega, show min (n + 1) 1000 = 1000 by omega]
    exact Int.le_refl _
end Go.Proofs.Ytplacjhmdfmocaf
