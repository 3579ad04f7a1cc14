/- Layer 12: the document's Next of what it refuses, and its Total. -/
import Derived.Test.YtikobhbknnlgbaaDelay2
import Derived.Test.YtikobhbknnlgbaaDelay3
namespace Go.Proofs.Ytikobhbknnlgbaa
open Go.RowKit

set_option maxRecDepth 100000 in
set_option maxHeartbeats 1000000 in
theorem refNext_no (most base cap timeout k : Int) (F : Nat) (w : World) (h : (base < 0 ∨ 1099511627776 < base) ∨ (cap < 0 ∨ 1099511627776 < cap) ∨ k < 0) :
    Calls Try.prog 37 #[cfg most base cap timeout F, .int .i64 k] w (Ret2 0 3 w) := by
  by_cases h1 : base < 0
  · clear h
    go_enter Try.func37, Try.ntmps37
    go_wp2_with (fail)
    go_ret2
    exact ⟨rfl, (Below.refl _ _).alloc (Nat.le_refl _) _⟩
  have d1 : decide (base < 0) = false := by simp; omega
  by_cases h2 : (1099511627776 : Int) < base
  · clear h
    go_enter Try.func37, Try.ntmps37
    go_wp2_with (fail)
    go_ret2
    exact ⟨rfl, (Below.refl _ _).alloc (Nat.le_refl _) _⟩
  have d2 : decide ((1099511627776 : Int) < base) = false := by simp; omega
  by_cases h3 : cap < 0
  · clear h
    go_enter Try.func37, Try.ntmps37
    go_wp2_with (fail)
    go_ret2
    exact ⟨rfl, (Below.refl _ _).alloc (Nat.le_refl _) _⟩
  have d3 : decide (cap < 0) = false := by simp; omega
  by_cases h4 : (1099511627776 : Int) < cap
  · clear h
    go_enter Try.func37, Try.ntmps37
    go_wp2_with (fail)
    go_ret2
    exact ⟨rfl, (Below.refl _ _).alloc (Nat.le_refl _) _⟩
  have d4 : decide ((1099511627776 : Int) < cap) = false := by simp; omega
  have h5 : k < 0 := by omega
  clear h
  go_enter Try.func37, Try.ntmps37
  go_wp2_with (fail)
  go_ret2
  exact ⟨rfl, (Below.refl _ _).alloc (Nat.le_refl _) _⟩
abbrev cfgRow (most base cap timeout : Int) (F : Nat) : Obj := .cells #[.int .i64 most, .int .i64 base, .int .i64 cap, .int .i64 timeout, .float .f64 F] 56
theorem cfg_cells {w : World} {b : Nat} {most base cap timeout : Int} {F : Nat} (h : w.heap[b]? = some (cfgRow most base cap timeout F)) : w.cell? ⟨b, 0, none⟩ = some (.int .i64 most) ∧ w.cell? ⟨b, 1, none⟩ = some (.int .i64 base) ∧ w.cell? ⟨b, 2, none⟩ = some (.int .i64 cap) ∧ w.cell? ⟨b, 3, none⟩ = some (.int .i64 timeout) ∧ w.cell? ⟨b, 4, none⟩ = some (.float .f64 F) :=
  ⟨cell_of_row _ _ 0 _ _ _ h, cell_of_row _ _ 1 _ _ _ h, cell_of_row _ _ 2 _ _ _ h, cell_of_row _ _ 3 _ _ _ h, cell_of_row _ _ 4 _ _ _ h⟩
set_option maxRecDepth 100000 in
set_option maxHeartbeats 1000000 in
theorem refTotal_no (most base cap timeout k : Int) (F : Nat) (w : World) (k1 : k ≤ 9223372036854775807) (h : (base < 0 ∨ 1099511627776 < base) ∨ (cap < 0 ∨ 1099511627776 < cap) ∨ k < 0 ∨ 1000 < k) :
    Calls Try.prog 39 #[cfg most base cap timeout F, .int .i64 k] w (Ret2 0 3 w) := by
  have hr : (w.alloc (cfgRow most base cap timeout F)).heap[w.heap.size]? = some (cfgRow most base cap timeout F) := row_alloc _ _
  obtain ⟨c0, c1, c2, c3, c4⟩ := cfg_cells hr
  have HBA : Hid (Below w.heap.size w (w.alloc (cfgRow most base cap timeout F))) := Lib.hid ((Below.refl _ w).alloc (Nat.le_refl _) _)
  by_cases hno : (base < 0 ∨ 1099511627776 < base) ∨ (cap < 0 ∨ 1099511627776 < cap) ∨ k < 0
  · have HN := Lib.hid (refNext_no most base cap timeout k F (w.alloc (cfgRow most base cap timeout F)) hno)
    clear hno h hr
    go_enter Try.func39, Try.ntmps39
    go_wp2_with (fail)
    refine HN.out.mono ?_
    rintro e w1 ⟨rfl, hb1⟩
    have HB1 := Lib.hid (HBA.out.trans (hb1.mono HBA.out.size))
    clear hb1
    go_wp2_with (fail)
    go_ret2
    exact ⟨rfl, HB1.out⟩
  · have HN := Lib.hid (refNext_yes most base cap timeout k F (w.alloc (cfgRow most base cap timeout F)) (by omega) (by omega) (by omega) (by omega) (by omega) k1)
    have hk : (1000 : Int) < k := by omega
    clear hno h hr
    go_enter Try.func39, Try.ntmps39
    go_wp2_with (fail)
    refine HN.out.mono ?_
    rintro e w1 ⟨rfl, hb1⟩
    have HB1 := Lib.hid (HBA.out.trans (hb1.mono HBA.out.size))
    clear hb1
    go_wp2_with (fail)
    go_ret2
    exact ⟨rfl, HB1.out⟩
set_option maxRecDepth 100000 in
set_option maxHeartbeats 2000000 in
theorem refTotal_yes (most base cap timeout n : Int) (F : Nat) (w : World) (b0 : 0 ≤ base) (b1 : base ≤ 1099511627776) (c0 : 0 ≤ cap) (c1 : cap ≤ 1099511627776) (n0 : 0 ≤ n) (n1 : n ≤ 1000) :
    Calls Try.prog 39 #[cfg most base cap timeout F, .int .i64 n] w (Ret2 (totD base cap F n.toNat) 0 w) := by
  obtain ⟨m, rfl⟩ := Int.eq_ofNat_of_zero_le n0
  rw [Int.toNat_natCast]
  have BND := Lib.hid (totD_bounds base cap F c0 c1)
  have hr : (w.alloc (cfgRow most base cap timeout F)).heap[w.heap.size]? = some (cfgRow most base cap timeout F) := row_alloc _ _
  obtain ⟨z0, z1, z2, z3, z4⟩ := cfg_cells hr
  have HBA : Hid (Below w.heap.size w (w.alloc (cfgRow most base cap timeout F))) := Lib.hid ((Below.refl _ w).alloc (Nat.le_refl _) _)
  have HN := Lib.hid (refNext_yes most base cap timeout (m : Int) F (w.alloc (cfgRow most base cap timeout F)) b0 b1 c0 c1 (by omega) (by omega))
  go_enter Try.func39, Try.ntmps39
  go_wp2_with (fail)
  refine HN.out.mono ?_
  rintro e w1 ⟨rfl, hb1⟩
  have HB1 := Lib.hid (HBA.out.trans (hb1.mono HBA.out.size))
  have HR1 := Lib.hid ((hb1.block w.heap.size (by simp)).trans hr)
  clear hb1 hr z0 z1 z2 z3 z4 HN
  have hm : ¬ (1000 : Int) < (m : Int) := by omega
  go_wp2_with (fail)
  go_loopw [9, 8] (fun i x wr => ∃ (j : Nat), j ≤ m ∧ i = .int .i64 j ∧ x = .int .i64 (totD base cap F j) ∧ wr.heap[w.heap.size]? = some (cfgRow most base cap timeout F) ∧ Below w.heap.size w wr) (fun i _ _ => m - (intOf i).toNat)
  case atStart => exact ⟨0, Nat.zero_le _, rfl, rfl, HR1.out, HB1.out⟩
  case round =>
    clear HR1 HB1
    obtain ⟨j, hj, rfl, rfl, hrow, hB⟩ := hrel
    have HB := Lib.hid hB
    have HR := Lib.hid hrow
    obtain ⟨z0, z1, z2, z3, z4⟩ := cfg_cells hrow
    clear hB hrow
    by_cases hlt : j < m
    · have hw : IntKind.i64.wrap (totD base cap F j + nextD base cap F j) = totD base cap F (j + 1) := by
        rw [show totD base cap F j + nextD base cap F j = totD base cap F (j + 1) from rfl]
        have h1 := BND.out (j + 1)
        have h2 : ((j + 1 : Nat) : Int) * cap ≤ 1000 * 1099511627776 := Int.mul_le_mul (by omega) c1 c0 (by omega)
        rw [IntKind.wrap_i64]
        omega
      have hw' : wrap64 (totD base cap F j + nextD base cap F j) = totD base cap F (j + 1) := by
        rw [show totD base cap F j + nextD base cap F j = totD base cap F (j + 1) from rfl]
        have h1 := BND.out (j + 1)
        have h2 : ((j + 1 : Nat) : Int) * cap ≤ 1000 * 1099511627776 := Int.mul_le_mul (by omega) c1 c0 (by omega)
        exact IntWalk.wrap64_in _ (by omega)
      go_wp2_with (fail)
      refine (refNext_yes most base cap timeout (j : Int) F _ b0 b1 c0 c1 (by omega) (by omega)).mono ?_
      rintro e w2 ⟨rfl, hb2⟩
      rw [Int.toNat_natCast]
      have HB2 := Lib.hid (HB.out.trans (hb2.mono HB.out.size))
      have HR2 := Lib.hid ((hb2.block _ (Array.getElem?_eq_some_iff.1 HR.out).1).trans HR.out)
      clear hb2 z0 z1 z2 z3 z4
      go_wp2_with (fail)
      exact ⟨⟨j + 1, by omega, by go_num, by (try rw [hw']); (try rfl), HR2.out, HB2.out⟩, by simp [intOf]; omega⟩
    · obtain rfl : j = m := by omega
      clear z0 z1 z2 z3 z4
      go_wp2_with (fail)
      go_ret2
      exact ⟨rfl, HB.out⟩
end Go.Proofs.Ytikobhbknnlgbaa
