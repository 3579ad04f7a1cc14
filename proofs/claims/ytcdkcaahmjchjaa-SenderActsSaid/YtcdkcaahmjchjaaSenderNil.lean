/- Layer 16: no sender. -/
import Derived.Test.YtcdkcaahmjchjaaSenderConfig
namespace Go.Proofs.Ytcdkcaahmjchjaa
open Go.RowKit

theorem nilOffer (n : Int) (w : World) : Calls Try.prog 18 #[.pointer none, .int .i64 n] w fun e w' => e = .returned (.int .i64 1) ∧ w = w' := by
  go_enter Try.func18, Try.ntmps18
  go_wp2
  go_ret
  exact ⟨rfl, rfl⟩
theorem nilTick (n : Int) (w : World) : Calls Try.prog 24 #[.pointer none, .int .i64 n] w fun e w' => e = .returned (.int .i64 1) ∧ w = w' := by
  go_enter Try.func24, Try.ntmps24
  go_wp2
  go_ret
  exact ⟨rfl, rfl⟩
theorem nilAt (w : World) : Calls Try.prog 28 #[.pointer none] w fun e w' => e = .returned (.int .i64 0) ∧ w = w' := by
  go_enter Try.func28, Try.ntmps28
  go_wp2
  go_ret
  exact ⟨rfl, rfl⟩
theorem nilLeft (w : World) : Calls Try.prog 30 #[.pointer none] w fun e w' => e = .returned (.int .i64 0) ∧ w = w' := by
  go_enter Try.func30, Try.ntmps30
  go_wp2
  go_ret
  exact ⟨rfl, rfl⟩
theorem nilTries (w : World) : Calls Try.prog 31 #[.pointer none] w fun e w' => e = .returned (.int .i64 0) ∧ w = w' := by
  go_enter Try.func31, Try.ntmps31
  go_wp2
  go_ret
  exact ⟨rfl, rfl⟩
theorem nilFlying (w : World) : Calls Try.prog 29 #[.pointer none] w fun e w' => e = .returned (.bool false) ∧ w = w' := by
  go_enter Try.func29, Try.ntmps29
  go_wp2
  go_ret
  exact ⟨rfl, rfl⟩
theorem nilDrop (w : World) : Calls Try.prog 26 #[.pointer none] w fun e w' => e = .returned (.tuple #[]) ∧ w = w' := by
  go_enter Try.func26, Try.ntmps26
  go_wp2_with (fail)
  refine (nilFlying w).mono ?_
  rintro e w' ⟨rfl, rfl⟩
  go_wp2
  go_end0
  exact ⟨rfl, rfl⟩
theorem nilAnswer (b : Bool) (w : World) : Calls Try.prog 22 #[.pointer none, .bool b] w fun e w' => e = .returned (.bool false) ∧ w = w' := by
  go_enter Try.func22, Try.ntmps22
  go_wp2_with (fail)
  refine (nilFlying w).mono ?_
  rintro e w' ⟨rfl, rfl⟩
  go_wp2
  go_ret
  exact ⟨rfl, rfl⟩
theorem nilPoll (w : World) : Calls Try.prog 20 #[.pointer none] w fun e w' => e = .returned (.tuple #[.int .i64 0, .bool false]) ∧ ∃ q, w' = w.drewN q := by
  go_enter Try.func20, Try.ntmps20
  go_wp2_with (fail)
  go_quiet (fail)
  go_wp2
  go_ret2
  exact ⟨rfl, _, rfl⟩

set_option maxRecDepth 100000 in
set_option maxHeartbeats 1000000 in
theorem refNext_no (most base cap timeout k : Int) (F : Nat) (w : World) (h : (base < 0 ∨ 1099511627776 < base) ∨ (cap < 0 ∨ 1099511627776 < cap) ∨ k < 0) :
    Calls Try.prog 34 #[cfg most base cap timeout F, .int .i64 k] w (Ret2 0 3 w) := by
  have HH := Lib.hid h
  clear h
  by_cases b0 : base < 0
  · have d : decide (base < 0) = true := by simpa using b0
    go_enter Try.func34, Try.ntmps34
    go_wp2
    go_ret2
    exact ⟨rfl, (Below.refl _ _).alloc (Nat.le_refl _) _⟩
  · have d0 : decide (base < 0) = false := by simp; omega
    by_cases b1 : 1099511627776 < base
    · have d : decide ((1099511627776 : Int) < base) = true := by simpa using b1
      go_enter Try.func34, Try.ntmps34
      go_wp2
      go_ret2
      exact ⟨rfl, (Below.refl _ _).alloc (Nat.le_refl _) _⟩
    · have d1 : decide ((1099511627776 : Int) < base) = false := by simp; omega
      by_cases c0 : cap < 0
      · have d : decide (cap < 0) = true := by simpa using c0
        go_enter Try.func34, Try.ntmps34
        go_wp2
        go_ret2
        exact ⟨rfl, (Below.refl _ _).alloc (Nat.le_refl _) _⟩
      · have d2 : decide (cap < 0) = false := by simp; omega
        by_cases c1 : 1099511627776 < cap
        · have d : decide ((1099511627776 : Int) < cap) = true := by simpa using c1
          go_enter Try.func34, Try.ntmps34
          go_wp2
          go_ret2
          exact ⟨rfl, (Below.refl _ _).alloc (Nat.le_refl _) _⟩
        · have d3 : decide ((1099511627776 : Int) < cap) = false := by simp; omega
          have k0 : k < 0 := by
            rcases HH.out with (h | h) | (h | h) | h
            · exact absurd h b0
            · exact absurd h b1
            · exact absurd h c0
            · exact absurd h c1
            · exact h
          have d : decide (k < 0) = true := by simpa using k0
          go_enter Try.func34, Try.ntmps34
          go_wp2
          go_ret2
          exact ⟨rfl, (Below.refl _ _).alloc (Nat.le_refl _) _⟩
end Go.Proofs.Ytcdkcaahmjchjaa
