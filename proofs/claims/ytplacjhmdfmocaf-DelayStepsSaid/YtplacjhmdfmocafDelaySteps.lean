/- DelaySteps: the walk. -/
import Derived.Test.YtplacjhmdfmocafDelay4
import Derived.Test.YtplacjhmdfmocafDelayWhole
namespace Go.Proofs.Ytplacjhmdfmocaf
open Go.RowKit

/-- two delays in a row of a whole factor -/
theorem steps (b f n : Nat) (hb : b ≤ 65535) (hn : n < 1000) : ∃ A B : Nat, nextD (b : Int) 1099511627776 (floatOfInt .f64 (1 + (f : Int) % 9)) n = (A : Int) ∧ nextD (b : Int) 1099511627776 (floatOfInt .f64 (1 + (f : Int) % 9)) (n + 1) = (B : Int) ∧
    A ≤ 1099511627776 ∧ (A < 1099511627776 → B = min (A * (1 + f % 9)) 1099511627776) ∧ (¬ A < 1099511627776 → B = A) := by
  have e : floatOfInt .f64 (1 + (f : Int) % 9) = f64 ((1 + f % 9 : Nat) : Int) := by
    unfold f64
    congr 1
  rw [e]
  have hm9 : 1 + f % 9 ≤ 9 := by omega
  have hm1 : 1 ≤ 1 + f % 9 := by omega
  generalize 1 + f % 9 = m at *
  have h1 := nextD_whole b m 1099511627776 n (by omega) hm9 hm1 (by omega)
  have h2 := nextD_whole b m 1099511627776 (n + 1) (by omega) hm9 hm1 (by omega)
  rw [show min n 1000 = n by omega] at h1
  rw [show min (n + 1) 1000 = n + 1 by omega] at h2
  have hs : b * m ^ (n + 1) = b * m ^ n * m := by rw [Nat.pow_succ, Nat.mul_assoc]
  have hle : b * m ^ n ≤ b * m ^ n * m := Nat.le_mul_of_pos_right _ hm1
  rw [hs] at h2
  generalize b * m ^ n = x at *
  refine ⟨min x 1099511627776, min (x * m) 1099511627776, h1, h2, by omega, fun h => ?_, fun h => ?_⟩
  · rw [show min x 1099511627776 = x by omega]
  · generalize x * m = y at *
    omega

set_option maxRecDepth 100000 in
set_option maxHeartbeats 1000000 in
theorem delaySteps_walk (b f k : Nat) (w : World) (hb : b ≤ 65535) (hf : f ≤ 255) (hk : k ≤ 255) :
    Calls Try.prog 6 #[.int .u16 b, .int .u8 f, .int .u8 k] w fun e w' => e = .returned (.bool true) ∧ Below w.heap.size w w' := by
  obtain ⟨A, B, hA, hB, hA1, hlt, hge⟩ := steps b f (k % 60) hb (by omega)
  have NA := Lib.hid hA
  have NB := Lib.hid hB
  clear hA hB
  have hsf := fun (A : Addr) (m : Mode) (W : World) => run_store Try.prog W A (.float .f64 (floatOfInt .f64 (1 + (f : Int) % 9))) m rfl
  go_enter Try.func6, Try.ntmps6
  go_wp2_with (fail)
  clear hsf
  refine (delayNext_yes 0 b 1099511627776 0 ((k : Int) % 60) (floatOfInt .f64 (1 + (f : Int) % 9)) _ (by omega) (by omega) (by omega) (by omega) (by omega) (by omega)).mono ?_
  rintro e w1 ⟨rfl, hb1⟩
  rw [show ((k : Int) % 60).toNat = k % 60 by omega, NA.out]
  have H1 := Lib.hid (And.intro (row_alloc w (.cells #[.int .i64 0, .int .i64 (b : Int), .int .i64 1099511627776, .int .i64 0, .float .f64 (floatOfInt .f64 (1 + (f : Int) % 9))] 28)) (And.intro hb1 (show w.heap.size < (w.alloc (.cells #[.int .i64 0, .int .i64 (b : Int), .int .i64 1099511627776, .int .i64 0, .float .f64 (floatOfInt .f64 (1 + (f : Int) % 9))] 28)).heap.size by simp)))
  have hr := fun (W' : World) (hB : Below (w.alloc (.cells #[.int .i64 0, .int .i64 (b : Int), .int .i64 1099511627776, .int .i64 0, .float .f64 (floatOfInt .f64 (1 + (f : Int) % 9))] 28)).heap.size (w.alloc (.cells #[.int .i64 0, .int .i64 (b : Int), .int .i64 1099511627776, .int .i64 0, .float .f64 (floatOfInt .f64 (1 + (f : Int) % 9))] 28)) W') => (hB.block _ H1.out.2.2).trans H1.out.1
  have HR := Lib.hid hr
  clear hb1 hr
  have z0 := cell_of_row w1 w.heap.size 0 _ _ _ (HR.out w1 H1.out.2.1)
  have z1 := cell_of_row w1 w.heap.size 1 _ _ _ (HR.out w1 H1.out.2.1)
  have z2 := cell_of_row w1 w.heap.size 2 _ _ _ (HR.out w1 H1.out.2.1)
  have z3 := cell_of_row w1 w.heap.size 3 _ _ _ (HR.out w1 H1.out.2.1)
  have z4 := cell_of_row w1 w.heap.size 4 _ _ _ (HR.out w1 H1.out.2.1)
  simp at z0 z1 z2 z3 z4
  go_wp2_with (fail)
  refine (delayNext_yes 0 b 1099511627776 0 ((k : Int) % 60 + 1) (floatOfInt .f64 (1 + (f : Int) % 9)) _ (by omega) (by omega) (by omega) (by omega) (by omega) (by omega)).mono ?_
  rintro e w2 ⟨rfl, hb2⟩
  rw [show ((k : Int) % 60 + 1).toNat = k % 60 + 1 by omega, NB.out]
  clear z0 z1 z2 z3 z4
  have B2 := Lib.hid (H1.out.2.1.trans (hb2.mono H1.out.2.1.size))
  have z2 := cell_of_row w2 w.heap.size 2 _ _ _ (HR.out w2 B2.out)
  simp at z2
  clear hb2
  by_cases hA : A < 1099511627776
  · have hb := hlt hA
    have hmul : IntKind.i64.wrap ((A : Int) * (1 + (f : Int) % 9)) = (A : Int) * (1 + (f : Int) % 9) := by
      have h1 : (A : Int) * (1 + (f : Int) % 9) ≤ 1099511627776 * 9 := Int.mul_le_mul (by omega) (by omega) (by omega) (by omega)
      have h0 : 0 ≤ (A : Int) * (1 + (f : Int) % 9) := Int.mul_nonneg (by omega) (by omega)
      rw [IntKind.wrap_i64]
      omega
    have hmin : min ((A : Int) * (1 + (f : Int) % 9)) 1099511627776 = (B : Int) := by
      rw [hb]
      have : ((A * (1 + f % 9) : Nat) : Int) = (A : Int) * (1 + (f : Int) % 9) := by simp
      omega
    have hA' : (A : Int) < 1099511627776 := by omega
    clear hb hlt hge hA hA1
    go_wp2_with (fail)
    refine (alive_any _).mono ?_
    rintro e w3 ⟨rfl, hb3⟩
    go_wp2
    go_ret
    have h0 : Below w.heap.size w (w.alloc (.cells #[.int .i64 0, .int .i64 (b : Int), .int .i64 1099511627776, .int .i64 0, .float .f64 (floatOfInt .f64 (1 + (f : Int) % 9))] 28)) := (Below.refl _ _).alloc (Nat.le_refl _) _
    exact ⟨rfl, h0.trans ((B2.out.trans (hb3.mono B2.out.size)).mono h0.size)⟩
  · have hb := hge hA
    subst hb
    have hBv : (B : Int) = 1099511627776 := by omega
    rw [hBv]
    clear hlt hge hA hA1 hBv
    go_wp2_with (fail)
    refine (alive_any _).mono ?_
    rintro e w3 ⟨rfl, hb3⟩
    go_wp2
    go_ret
    have h0 : Below w.heap.size w (w.alloc (.cells #[.int .i64 0, .int .i64 (b : Int), .int .i64 1099511627776, .int .i64 0, .float .f64 (floatOfInt .f64 (1 + (f : Int) % 9))] 28)) := (Below.refl _ _).alloc (Nat.le_refl _) _
    exact ⟨rfl, h0.trans ((B2.out.trans (hb3.mono B2.out.size)).mono h0.size)⟩

theorem delaySteps_go (b f k : Int) (w : World) (h0 : (Lit.int .u16 b).wf = true) (h1 : (Lit.int .u8 f).wf = true) (h2 : (Lit.int .u8 k).wf = true) :
    Calls Try.prog 6 #[.int .u16 b, .int .u8 f, .int .u8 k] w fun e w' => e = .returned (.bool true) ∧ Below w.heap.size w w' := by
  have hb : 0 ≤ b ∧ b ≤ 65535 := by simpa [Lit.wf, IntKind.min, IntKind.max, IntKind.signed, IntKind.bits] using h0
  have hf : 0 ≤ f ∧ f ≤ 255 := by simpa [Lit.wf, IntKind.min, IntKind.max, IntKind.signed, IntKind.bits] using h1
  have hk : 0 ≤ k ∧ k ≤ 255 := by simpa [Lit.wf, IntKind.min, IntKind.max, IntKind.signed, IntKind.bits] using h2
  obtain ⟨B, rfl⟩ := Int.eq_ofNat_of_zero_le hb.1
  obtain ⟨F, rfl⟩ := Int.eq_ofNat_of_zero_le hf.1
  obtain ⟨K, rfl⟩ := Int.eq_ofNat_of_zero_le hk.1
  exact delaySteps_walk B F K w (by omega) (by omega) (by omega)
end Go.Proofs.Ytplacjhmdfmocaf
