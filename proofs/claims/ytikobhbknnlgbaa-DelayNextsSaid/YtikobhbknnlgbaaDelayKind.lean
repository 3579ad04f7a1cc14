/- Layer 12: kinds of factors. -/
import Derived.Test.YtikobhbknnlgbaaDelay3
namespace Go.Proofs.Ytikobhbknnlgbaa
open Go.RowKit

theorem either_any (m : Bool) (a b : Int) (w : World) : Calls Try.prog 52 #[.bool m, .int .i64 a, .int .i64 b] w fun e w' => e = .returned (.int .i64 (if m then a else b)) ∧ w = w' := by
  cases m
  · go_enter Try.func52, Try.ntmps52
    go_wp2
    go_ret
    exact ⟨rfl, rfl⟩
  · go_enter Try.func52, Try.ntmps52
    go_wp2
    go_ret
    exact ⟨rfl, rfl⟩
theorem kind_1 (w : World) : Calls Try.prog 41 #[.float .f64 9218868437227405312] w fun e w' => e = .returned (.int .i64 1) ∧ w = w' := by
  have h2 := fun x w => toBits x w
  go_enter Try.func41, Try.ntmps41
  go_wp2
  go_ret
  exact ⟨rfl, rfl⟩
theorem kind_2 (w : World) : Calls Try.prog 41 #[.float .f64 18442240474082181120] w fun e w' => e = .returned (.int .i64 2) ∧ w = w' := by
  have h2 := fun x w => toBits x w
  go_enter Try.func41, Try.ntmps41
  go_wp2
  go_ret
  exact ⟨rfl, rfl⟩
theorem kind_3 (w : World) : Calls Try.prog 41 #[.float .f64 0] w fun e w' => e = .returned (.int .i64 3) ∧ w = w' := by
  have h2 := fun x w => toBits x w
  go_enter Try.func41, Try.ntmps41
  go_wp2
  go_ret
  exact ⟨rfl, rfl⟩
theorem kind_4 (w : World) : Calls Try.prog 41 #[.float .f64 9223372036854775808] w fun e w' => e = .returned (.int .i64 4) ∧ w = w' := by
  have h2 := fun x w => toBits x w
  go_enter Try.func41, Try.ntmps41
  go_wp2
  go_ret
  exact ⟨rfl, rfl⟩
theorem kind_5 (w : World) : Calls Try.prog 41 #[.float .f64 13826050856027422720] w fun e w' => e = .returned (.int .i64 5) ∧ w = w' := by
  have h2 := fun x w => toBits x w
  go_enter Try.func41, Try.ntmps41
  go_wp2
  go_ret
  exact ⟨rfl, rfl⟩
theorem kind_6 (w : World) : Calls Try.prog 41 #[.float .f64 1] w fun e w' => e = .returned (.int .i64 6) ∧ w = w' := by
  have h2 := fun x w => toBits x w
  go_enter Try.func41, Try.ntmps41
  go_wp2
  go_ret
  exact ⟨rfl, rfl⟩
theorem kind_0 (x : Nat) (w : World) (h1 : bits .and .u64 (x : Int) 9218868437227405312 = 9218868437227405312) (h3 : (bits .and .u64 (x : Int) 4503599627370495 != 0) = true) :
    Calls Try.prog 41 #[.float .f64 x] w fun e w' => e = .returned (.int .i64 0) ∧ w = w' := by
  have h2 := fun w => toBits x w
  go_enter Try.func41, Try.ntmps41
  go_wp2_with (fail)
  go_ret
  exact ⟨rfl, rfl⟩
end Go.Proofs.Ytikobhbknnlgbaa
