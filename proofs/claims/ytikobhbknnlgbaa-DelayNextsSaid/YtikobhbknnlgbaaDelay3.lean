/- Layer 12: bits as floats; ticks; Total. -/
import Derived.Test.YtikobhbknnlgbaaDelay
import Derived.Laws.Externs
import Derived.Laws.Rows
namespace Go.Proofs.Ytikobhbknnlgbaa
open Go.RowKit

theorem fromBits (n : Int) (w : World) : (callFunc 35 #[.int .u64 n]).run Try.prog w = .ok (.value (.float .f64 n.toNat)) w := by
  rw [run_callFunc_extern Try.func35 (by kernel_rfl) (by kernel_rfl) (by kernel_rfl) (e := Extern.MathFloatBits.float64frombits) (by kernel_rfl)]
  rfl
theorem toBits (x : Nat) (w : World) : (callFunc 51 #[.float .f64 x]).run Try.prog w = .ok (.value (.int .u64 x)) w := by
  rw [run_callFunc_extern Try.func51 (by kernel_rfl) (by kernel_rfl) (by kernel_rfl) (e := Extern.MathFloatBits.float64bits) (by kernel_rfl)]
  rfl

theorem mathNaN (w : World) : Calls Try.prog 50 #[] w fun e w' => e = .returned (.float .f64 9221120237041090561) ∧ w = w' := by
  have h := fun w => fromBits 9221120237041090561 w
  go_enter Try.func50, Try.ntmps50
  go_wp2
  go_ret
  exact ⟨rfl, rfl⟩

/-- the sum of the first n delays -/
def totD (base cap : Int) (F : Nat) : Nat → Int
  | 0 => 0
  | k + 1 => totD base cap F k + nextD base cap F k
theorem totD_bounds (base cap : Int) (F : Nat) (h0 : 0 ≤ cap) (h1 : cap ≤ 1099511627776) : ∀ n, 0 ≤ totD base cap F n ∧ totD base cap F n ≤ n * cap
  | 0 => by simp [totD]
  | n + 1 => by
    have h := totD_bounds base cap F h0 h1 n
    have h2 := nextD_bounds base cap F n h0 h1
    have h3 : ((n + 1 : Nat) : Int) * cap = n * cap + cap := by rw [Int.natCast_add, Int.add_mul]; simp
    rw [totD, h3]
    omega

theorem row_alloc (w : World) (o : Obj) : (w.alloc o).heap[w.heap.size]? = some o := by unfold World.alloc; simp

set_option maxRecDepth 100000 in
set_option maxHeartbeats 1000000 in
theorem delayTotal_yes (most base cap timeout n : Int) (F : Nat) (w : World) (b0 : 0 ≤ base) (b1 : base ≤ 1099511627776) (c0 : 0 ≤ cap) (c1 : cap ≤ 1099511627776) (n0 : 0 ≤ n) (n1 : n ≤ 1000) :
    Calls Try.prog 38 #[cfg most base cap timeout F, .int .i64 n] w (Ret2 (totD base cap F n.toNat) 0 w) := by
  obtain ⟨m, rfl⟩ := Int.eq_ofNat_of_zero_le n0
  rw [Int.toNat_natCast]
  have hS0 : totD base cap F 0 = 0 := rfl
  have BND := Lib.hid (totD_bounds base cap F c0 c1)
  go_enter Try.func38, Try.ntmps38
  go_wp2_with (fail)
  refine (rightTicks_yes base _ b0 b1).mono ?_
  rintro e w1 ⟨rfl, rfl⟩
  go_wp2_with (fail)
  refine (rightTicks_yes cap _ c0 c1).mono ?_
  rintro e w1 ⟨rfl, rfl⟩
  go_wp2_with (fail)
  have hb0 : Below (w.alloc (.cells #[.int .i64 most, .int .i64 base, .int .i64 cap, .int .i64 timeout, .float .f64 F] 56)).heap.size (w.alloc (.cells #[.int .i64 most, .int .i64 base, .int .i64 cap, .int .i64 timeout, .float .f64 F] 56)) (w.alloc (.cells #[.int .i64 most, .int .i64 base, .int .i64 cap, .int .i64 timeout, .float .f64 F] 56)) := Below.refl _ _
  go_loopw [29, 6] (fun i x wr => ∃ (j : Nat), j ≤ m ∧ i = .int .i64 j ∧ x = .int .i64 (totD base cap F j) ∧ Below (w.alloc (.cells #[.int .i64 most, .int .i64 base, .int .i64 cap, .int .i64 timeout, .float .f64 F] 56)).heap.size (w.alloc (.cells #[.int .i64 most, .int .i64 base, .int .i64 cap, .int .i64 timeout, .float .f64 F] 56)) wr) (fun i _ _ => m - (intOf i).toNat)
  case atStart => exact ⟨0, Nat.zero_le _, rfl, rfl, hb0⟩
  case round =>
    clear hb0
    obtain ⟨j, hj, rfl, rfl, hB⟩ := hrel
    have HB := Lib.hid hB
    clear hB
    by_cases hlt : j < m
    · have hrow : wr.heap[w.heap.size]? = some (.cells #[.int .i64 most, .int .i64 base, .int .i64 cap, .int .i64 timeout, .float .f64 F] 56) := by
        rw [HB.out.block _ (by simp)]
        exact row_alloc _ _
      have hc0 : wr.cell? ⟨w.heap.size, 0, none⟩ = some (.int .i64 most) := by rw [cell_of_row wr _ _ _ _ _ hrow]; rfl
      have hc1 : wr.cell? ⟨w.heap.size, 1, none⟩ = some (.int .i64 base) := by rw [cell_of_row wr _ _ _ _ _ hrow]; rfl
      have hc2 : wr.cell? ⟨w.heap.size, 2, none⟩ = some (.int .i64 cap) := by rw [cell_of_row wr _ _ _ _ _ hrow]; rfl
      have hc3 : wr.cell? ⟨w.heap.size, 3, none⟩ = some (.int .i64 timeout) := by rw [cell_of_row wr _ _ _ _ _ hrow]; rfl
      have hc4 : wr.cell? ⟨w.heap.size, 4, none⟩ = some (.float .f64 F) := by rw [cell_of_row wr _ _ _ _ _ hrow]; rfl
      clear hrow
      have hw : IntKind.i64.wrap (totD base cap F j + nextD base cap F j) = totD base cap F (j + 1) := by
        rw [show totD base cap F j + nextD base cap F j = totD base cap F (j + 1) from rfl]
        have h1 := BND.out (j + 1)
        have h2 : ((j + 1 : Nat) : Int) * cap ≤ 1000 * 1099511627776 := Int.mul_le_mul (by omega) c1 c0 (by omega)
        rw [IntKind.wrap_i64]
        omega
      go_wp2_with (fail)
      refine (delayNext_yes most base cap timeout (j : Int) F _ b0 b1 c0 c1 (by omega) (by omega)).mono ?_
      rintro e w1 ⟨rfl, hb1⟩
      rw [Int.toNat_natCast]
      have HB2 := Lib.hid (HB.out.trans (hb1.mono HB.out.size))
      clear HB hb1 hc0 hc1 hc2 hc3 hc4
      go_wp2_with (fail)
      go_roundw
      case rel => exact ⟨j + 1, by omega, by go_num, rfl, HB2.out⟩
      case measure => simp [intOf]; omega
    · have hjm : j = m := by omega
      subst hjm
      go_wp2_with (fail)
      go_ret2
      exact ⟨rfl, ((Below.refl _ _).alloc (Nat.le_refl _) _).trans (HB.out.mono (by simp))⟩
end Go.Proofs.Ytikobhbknnlgbaa
