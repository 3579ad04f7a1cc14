/- Layer 12: what is refused, by Next, by Total. -/
import Derived.Test.YtikobhbknnlgbaaDelay3
namespace Go.Proofs.Ytikobhbknnlgbaa
open Go.RowKit

set_option maxRecDepth 100000 in
set_option maxHeartbeats 1000000 in
theorem delayNext_no (most base cap timeout k : Int) (F : Nat) (w : World) (h : (base < 0 ∨ 1099511627776 < base) ∨ (cap < 0 ∨ 1099511627776 < cap) ∨ k < 0) :
    Calls Try.prog 36 #[cfg most base cap timeout F, .int .i64 k] w (Ret2 0 3 w) := by
  by_cases hb : base < 0 ∨ 1099511627776 < base
  · have HB := Lib.hid hb
    clear hb h
    go_enter Try.func36, Try.ntmps36
    go_wp2_with (fail)
    refine (rightTicks_no base _ HB.out).mono ?_
    rintro e w1 ⟨rfl, rfl⟩
    go_wp2_with (fail)
    go_ret2
    exact ⟨rfl, (Below.refl _ _).alloc (Nat.le_refl _) _⟩
  · have b0 : 0 ≤ base := by omega
    have b1 : base ≤ 1099511627776 := by omega
    by_cases hc : cap < 0 ∨ 1099511627776 < cap
    · have HC := Lib.hid hc
      clear hc h hb
      go_enter Try.func36, Try.ntmps36
      go_wp2_with (fail)
      refine (rightTicks_yes base _ b0 b1).mono ?_
      rintro e w1 ⟨rfl, rfl⟩
      go_wp2_with (fail)
      refine (rightTicks_no cap _ HC.out).mono ?_
      rintro e w1 ⟨rfl, rfl⟩
      go_wp2_with (fail)
      go_ret2
      exact ⟨rfl, (Below.refl _ _).alloc (Nat.le_refl _) _⟩
    · have c0 : 0 ≤ cap := by omega
      have c1 : cap ≤ 1099511627776 := by omega
      have hk : k < 0 := by omega
      clear h hb hc
      go_enter Try.func36, Try.ntmps36
      go_wp2_with (fail)
      refine (rightTicks_yes base _ b0 b1).mono ?_
      rintro e w1 ⟨rfl, rfl⟩
      go_wp2_with (fail)
      refine (rightTicks_yes cap _ c0 c1).mono ?_
      rintro e w1 ⟨rfl, rfl⟩
      go_wp2_with (fail)
      go_ret2
      exact ⟨rfl, (Below.refl _ _).alloc (Nat.le_refl _) _⟩

set_option maxRecDepth 100000 in
set_option maxHeartbeats 1000000 in
theorem delayTotal_no (most base cap timeout k : Int) (F : Nat) (w : World) (h : (base < 0 ∨ 1099511627776 < base) ∨ (cap < 0 ∨ 1099511627776 < cap) ∨ k < 0 ∨ 1000 < k) :
    Calls Try.prog 38 #[cfg most base cap timeout F, .int .i64 k] w (Ret2 0 3 w) := by
  by_cases hb : base < 0 ∨ 1099511627776 < base
  · have HB := Lib.hid hb
    clear hb h
    go_enter Try.func38, Try.ntmps38
    go_wp2_with (fail)
    refine (rightTicks_no base _ HB.out).mono ?_
    rintro e w1 ⟨rfl, rfl⟩
    go_wp2_with (fail)
    go_ret2
    exact ⟨rfl, (Below.refl _ _).alloc (Nat.le_refl _) _⟩
  · have b0 : 0 ≤ base := by omega
    have b1 : base ≤ 1099511627776 := by omega
    by_cases hc : cap < 0 ∨ 1099511627776 < cap
    · have HC := Lib.hid hc
      clear hc h hb
      go_enter Try.func38, Try.ntmps38
      go_wp2_with (fail)
      refine (rightTicks_yes base _ b0 b1).mono ?_
      rintro e w1 ⟨rfl, rfl⟩
      go_wp2_with (fail)
      refine (rightTicks_no cap _ HC.out).mono ?_
      rintro e w1 ⟨rfl, rfl⟩
      go_wp2_with (fail)
      go_ret2
      exact ⟨rfl, (Below.refl _ _).alloc (Nat.le_refl _) _⟩
    · have c0 : 0 ≤ cap := by omega
      have c1 : cap ≤ 1099511627776 := by omega
      have hk2 : k < 0 ∨ 1000 < k := by omega
      clear h hb hc
      rcases hk2 with hk | hk
      · go_enter Try.func38, Try.ntmps38
        go_wp2_with (fail)
        refine (rightTicks_yes base _ b0 b1).mono ?_
        rintro e w1 ⟨rfl, rfl⟩
        go_wp2_with (fail)
        refine (rightTicks_yes cap _ c0 c1).mono ?_
        rintro e w1 ⟨rfl, rfl⟩
        go_wp2_with (fail)
        go_ret2
        exact ⟨rfl, (Below.refl _ _).alloc (Nat.le_refl _) _⟩
      · go_enter Try.func38, Try.ntmps38
        go_wp2_with (fail)
        refine (rightTicks_yes base _ b0 b1).mono ?_
        rintro e w1 ⟨rfl, rfl⟩
        go_wp2_with (fail)
        refine (rightTicks_yes cap _ c0 c1).mono ?_
        rintro e w1 ⟨rfl, rfl⟩
        go_wp2_with (fail)
        go_ret2
        exact ⟨rfl, (Below.refl _ _).alloc (Nat.le_refl _) _⟩
end Go.Proofs.Ytikobhbknnlgbaa
