/- Layer 12: kinds of factors. -/
import Derived.Test.YtplacjhmdfmocafDelay3
namespace Go.Proofs.Ytplacjhmdfmocaf
open Go.RowKit

theorem mathInf_plus (w : World) : Calls Try.prog 19 #[.int .i64 1] w fun e w' => e = .returned (.float .f64 9218868437227405312) ∧ w = w' := by
  have h := fun w => fromBits 9218868437227405312 w
  go_enter Try.func19, Try.ntmps19
  go_wp2
  go_ret
  exact ⟨rfl, rfl⟩
theorem mathInf_minus (w : World) : Calls Try.prog 19 #[.int .i64 (-1)] w fun e w' => e = .returned (.float .f64 18442240474082181120) ∧ w = w' := by
  have h := fun w => fromBits 18442240474082181120 w
  go_enter Try.func19, Try.ntmps19
  go_wp2
  go_ret
  exact ⟨rfl, rfl⟩
theorem copysign_minus (w : World) : Calls Try.prog 20 #[.float .f64 0, .float .f64 13830554455654793216] w fun e w' => e = .returned (.float .f64 9223372036854775808) ∧ w = w' := by
  have h := fun w => fromBits 9223372036854775808 w
  have h2 : ∀ w, (callFunc 43 #[.float .f64 0]).run Try.prog w = .ok (.value (.int .u64 0)) w := fun w => toBits 0 w
  have h3 : ∀ w, (callFunc 43 #[.float .f64 13830554455654793216]).run Try.prog w = .ok (.value (.int .u64 13830554455654793216)) w := fun w => toBits 13830554455654793216 w
  have b1 : bits .andNot .u64 0 9223372036854775808 = 0 := by decide +kernel
  have b2 : bits .and .u64 13830554455654793216 9223372036854775808 = 9223372036854775808 := by decide +kernel
  have b3 : bits .or .u64 0 9223372036854775808 = 9223372036854775808 := by decide +kernel
  go_enter Try.func20, Try.ntmps20
  go_wp2_with (fail)
  go_ret
  exact ⟨rfl, rfl⟩
theorem either_any (m : Bool) (a b : Int) (w : World) : Calls Try.prog 44 #[.bool m, .int .i64 a, .int .i64 b] w fun e w' => e = .returned (.int .i64 (if m then a else b)) ∧ w = w' := by
  cases m
  · go_enter Try.func44, Try.ntmps44
    go_wp2
    go_ret
    exact ⟨rfl, rfl⟩
  · go_enter Try.func44, Try.ntmps44
    go_wp2
    go_ret
    exact ⟨rfl, rfl⟩
theorem kind_1 (w : World) : Calls Try.prog 21 #[.float .f64 9218868437227405312] w fun e w' => e = .returned (.int .i64 1) ∧ w = w' := by
  have h2 := fun x w => toBits x w
  go_enter Try.func21, Try.ntmps21
  go_wp2
  go_ret
  exact ⟨rfl, rfl⟩
theorem kind_2 (w : World) : Calls Try.prog 21 #[.float .f64 18442240474082181120] w fun e w' => e = .returned (.int .i64 2) ∧ w = w' := by
  have h2 := fun x w => toBits x w
  go_enter Try.func21, Try.ntmps21
  go_wp2
  go_ret
  exact ⟨rfl, rfl⟩
theorem kind_3 (w : World) : Calls Try.prog 21 #[.float .f64 0] w fun e w' => e = .returned (.int .i64 3) ∧ w = w' := by
  have h2 := fun x w => toBits x w
  go_enter Try.func21, Try.ntmps21
  go_wp2
  go_ret
  exact ⟨rfl, rfl⟩
theorem kind_4 (w : World) : Calls Try.prog 21 #[.float .f64 9223372036854775808] w fun e w' => e = .returned (.int .i64 4) ∧ w = w' := by
  have h2 := fun x w => toBits x w
  go_enter Try.func21, Try.ntmps21
  go_wp2
  go_ret
  exact ⟨rfl, rfl⟩
theorem kind_5 (w : World) : Calls Try.prog 21 #[.float .f64 13826050856027422720] w fun e w' => e = .returned (.int .i64 5) ∧ w = w' := by
  have h2 := fun x w => toBits x w
  go_enter Try.func21, Try.ntmps21
  go_wp2
  go_ret
  exact ⟨rfl, rfl⟩
theorem kind_6 (w : World) : Calls Try.prog 21 #[.float .f64 1] w fun e w' => e = .returned (.int .i64 6) ∧ w = w' := by
  have h2 := fun x w => toBits x w
  go_enter Try.func21, Try.ntmps21
  go_wp2
  go_ret
  exact ⟨rfl, rfl⟩
theorem kind_0 (x : Nat) (w : World) (h1 : bits .and .u64 (x : Int) 9218868437227405312 = 9218868437227405312) (h3 : (bits .and .u64 (x : Int) 4503599627370495 != 0) = true) :
    Calls Try.prog 21 #[.float .f64 x] w fun e w' => e = .returned (.int .i64 0) ∧ w = w' := by
  have h2 := fun w => toBits x w
  go_enter Try.func21, Try.ntmps21
  go_wp2_with (fail)
  go_ret
  exact ⟨rfl, rfl⟩
end Go.Proofs.Ytplacjhmdfmocaf
