/- Layer 12: the document's Kind, of whatever bits. -/
import Derived.Test.YtikobhbknnlgbaaFloat9
namespace Go.Proofs.Ytikobhbknnlgbaa
open Go.RowKit Ieee

abbrev ordX (x y : Nat) : Option Ordering := FloatKind.f64.format.order x y
theorem run_quoX {P : Program} (w : World) (t : TypeId) (x y r : Nat) (h : floatBits .quo .f64 x y = some r) : (binOp .quo t (.float .f64 x) (.float .f64 y)).run P w = .ok (.float .f64 r) w := by
  unfold floatBits at h
  simp only at h
  simp [binOp, Op.floatArith, h]
set_option maxHeartbeats 2000000 in
set_option maxRecDepth 100000 in
theorem refKind (x : Nat) (hx : x < 18446744073709551616) (w : World) : Calls Try.prog 42 #[.float .f64 x] w fun e w' => e = .returned (.int .i64 (kindX x)) ∧ w = w' := by
  have h2 := fun w => toBits x w
  by_cases hN : 9218868437227405312 < absX x
  · have f1 : (FloatKind.f64.format.order x x != some .eq) = true := by rw [show FloatKind.f64.format.order x x = none from order_nan x x hN]; rfl
    have hR : kindX x = 0 := if_pos hN
    rw [hR]
    clear hR
    go_enter Try.func42, Try.ntmps42
    go_wp2_with (fail)
    go_ret
    exact ⟨rfl, rfl⟩
  have hle : absX x ≤ 9218868437227405312 := by omega
  have f1 : (FloatKind.f64.format.order x x != some .eq) = false := by rw [show FloatKind.f64.format.order x x = some .eq from order_self x hx hle]; rfl
  have f1' : (FloatKind.f64.format.order x x == some .eq) = true := by rw [show FloatKind.f64.format.order x x = some .eq from order_self x hx hle]; rfl
  by_cases hZ : absX x = 0
  · have hax : absX x = x % 9223372036854775808 := rfl
    have hxz : x = 0 ∨ x = 9223372036854775808 := by omega
    clear f1 f1' hN hle hax hZ
    rcases hxz with rfl | rfl
    · rw [show kindX 0 = 3 from by decide]
      go_enter Try.func42, Try.ntmps42
      go_wp2_with (fail)
      go_ret
      exact ⟨rfl, rfl⟩
    · rw [show kindX 9223372036854775808 = 4 from by decide]
      go_enter Try.func42, Try.ntmps42
      go_wp2_with (fail)
      go_ret
      exact ⟨rfl, rfl⟩
  have f2 := order_zero x hx hZ hle
  by_cases hI : absX x = 9218868437227405312
  · have hq : floatBits .quo .f64 x 4611686018427387904 = some x := by
      have hax : absX x = x % 9223372036854775808 := rfl
      have hxz : x = 9218868437227405312 ∨ x = 18442240474082181120 := by omega
      rcases hxz with rfl | rfl <;> decide +kernel
    have hqu := fun w => run_quoX (P := Try.prog) w 53 _ _ _ hq
    have hR : kindX x = if negX x then 2 else 1 := by
      unfold kindX
      rw [if_neg (by omega), if_pos hI]
    rw [hR]
    clear hR hI
    cases hs : negX x
    · rw [hs] at f2
      have g1 : (FloatKind.f64.format.order x 0 == some .gt) = true := by rw [show FloatKind.f64.format.order x 0 = _ from f2]; rfl
      have g2 : (FloatKind.f64.format.order x 0 == some .lt) = false := by rw [show FloatKind.f64.format.order x 0 = _ from f2]; rfl
      go_enter Try.func42, Try.ntmps42
      go_wp2_with (fail)
      go_ret
      exact ⟨rfl, rfl⟩
    · rw [hs] at f2
      have g1 : (FloatKind.f64.format.order x 0 == some .gt) = false := by rw [show FloatKind.f64.format.order x 0 = _ from f2]; rfl
      have g2 : (FloatKind.f64.format.order x 0 == some .lt) = true := by rw [show FloatKind.f64.format.order x 0 = _ from f2]; rfl
      go_enter Try.func42, Try.ntmps42
      go_wp2_with (fail)
      go_ret
      exact ⟨rfl, rfl⟩
  · obtain ⟨r, hq, f4⟩ := half_any x hx hZ (by omega)
    have hqu := fun w => run_quoX (P := Try.prog) w 53 _ _ _ hq
    have f4' : (FloatKind.f64.format.order x r == some .eq) = false := f4
    have hR : kindX x = if negX x then 5 else 6 := by
      unfold kindX
      rw [if_neg (by omega), if_neg hI, if_neg hZ]
    rw [hR]
    clear hR hI f4
    cases hs : negX x
    · rw [hs] at f2
      have g1 : (FloatKind.f64.format.order x 0 == some .gt) = true := by rw [show FloatKind.f64.format.order x 0 = _ from f2]; rfl
      have g2 : (FloatKind.f64.format.order x 0 == some .lt) = false := by rw [show FloatKind.f64.format.order x 0 = _ from f2]; rfl
      have g3 : (FloatKind.f64.format.order x 0 == some .eq) = false := by rw [show FloatKind.f64.format.order x 0 = _ from f2]; rfl
      go_enter Try.func42, Try.ntmps42
      go_wp2_with (fail)
      go_ret
      exact ⟨rfl, rfl⟩
    · rw [hs] at f2
      have g1 : (FloatKind.f64.format.order x 0 == some .gt) = false := by rw [show FloatKind.f64.format.order x 0 = _ from f2]; rfl
      have g2 : (FloatKind.f64.format.order x 0 == some .lt) = true := by rw [show FloatKind.f64.format.order x 0 = _ from f2]; rfl
      have g3 : (FloatKind.f64.format.order x 0 == some .eq) = false := by rw [show FloatKind.f64.format.order x 0 = _ from f2]; rfl
      go_enter Try.func42, Try.ntmps42
      go_wp2_with (fail)
      go_ret
      exact ⟨rfl, rfl⟩
end Go.Proofs.Ytikobhbknnlgbaa
