/- Plain facts on floats of 64 bits with a sign: a half is another float, but of an infinity. -/
import Derived.Test.YtikobhbknnlgbaaFloat8
namespace Go.Proofs.Ytikobhbknnlgbaa
open Ieee

theorem word_sign (s : Bool) (r : Nat) : double.word s r = (if s then 9223372036854775808 else 0) + r := by
  cases s
  · show r = 0 + r
    omega
  · obtain ⟨_, _, e6, _, _⟩ := consts
    unfold Format.word
    simp [e6]
theorem nearest_sign (s : Bool) (M : Nat) (p : Int) : double.nearest s M p = (if s then 9223372036854775808 else 0) + double.nearest false M p := by
  unfold Format.nearest
  by_cases h : M = 0
  · rw [if_pos h, if_pos h, word_sign, word_sign]
    simp
  · rw [if_neg h, if_neg h]
    simp only [word_sign]
    have hc : ∀ n d, Toward.even.cut s n d = Toward.even.cut false n d := fun n d => rfl
    simp only [hc]
    simp
theorem half_any (x : Nat) (hx : x < 18446744073709551616) (h0 : absX x ≠ 0) (hy : absX x < 9218868437227405312) : ∃ r, floatBits .quo .f64 x 4611686018427387904 = some r ∧ (double.order x r == some .eq) = false := by
  obtain ⟨M, p, hq, hr⟩ := half_nearest (absX x) (by omega) hy (negX x)
  obtain ⟨r', hr'⟩ : ∃ r', r' = double.nearest false M p := ⟨_, rfl⟩
  rw [← hr'] at hr
  have hax : absX x = x % 9223372036854775808 := rfl
  have hxx : x = (if negX x then 9223372036854775808 else 0) + absX x := by
    unfold negX
    by_cases hs : 9223372036854775808 ≤ x
    · simp [hs]; omega
    · simp [hs]; omega
  refine ⟨(if negX x then 9223372036854775808 else 0) + r', ?_, ?_⟩
  · show double.div x 4611686018427387904 = _
    unfold Format.div
    rw [read_any x hx hy, read_two]
    show ((Datum.quotient 54 _ _).map _) = _
    rw [hq]
    simp only [Option.map_some, Format.write]
    rw [nearest_sign, hr']
  · have hb : (if negX x then 9223372036854775808 else 0) + r' < 18446744073709551616 := by split <;> omega
    have ha : absX ((if negX x then 9223372036854775808 else 0) + r') = r' := by show (_ % _ = _); split <;> omega
    have hn : negX ((if negX x then 9223372036854775808 else 0) + r') = negX x := by
      cases hh : negX x
      · unfold negX; simp; omega
      · unfold negX; simp
    unfold Format.order
    rw [read_any x hx hy, read_any _ hb (by rw [ha]; omega), ha, hn]
    have hV : V r' < V (absX x) := Nat.lt_of_le_of_lt (V_mono hr) (V_lt (absX x) (by omega))
    unfold V at hV
    have hsc := (scale (mag r') (mag (absX x)) (exs r') (exs (absX x))).2 hV
    simp only [Datum.order, signed, Nat.shiftLeft_eq]
    have t1 : (-1074 + (exs (absX x) : Int) - min (-1074 + (exs (absX x) : Int)) (-1074 + (exs r' : Int))).toNat = exs (absX x) - min (exs r') (exs (absX x)) := by omega
    have t2 : (-1074 + (exs r' : Int) - min (-1074 + (exs (absX x) : Int)) (-1074 + (exs r' : Int))).toNat = exs r' - min (exs r') (exs (absX x)) := by omega
    rw [t1, t2]
    generalize mag r' * 2 ^ (exs r' - min (exs r') (exs (absX x))) = a at *
    generalize mag (absX x) * 2 ^ (exs (absX x) - min (exs r') (exs (absX x))) = b at *
    rw [beq_eq_false_iff_ne]
    intro he
    simp only [Option.some.injEq] at he
    rw [Int.compare_eq_eq] at he
    revert he
    cases negX x
    · intro he
      simp only [Bool.false_eq_true, if_false] at he
      omega
    · intro he
      simp only [if_true] at he
      omega
end Go.Proofs.Ytikobhbknnlgbaa
