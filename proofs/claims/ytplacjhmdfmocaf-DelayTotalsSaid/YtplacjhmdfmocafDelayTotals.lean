/- DelayTotals: the walk. -/
import Derived.Test.YtplacjhmdfmocafDelay4
import Derived.Deep.RegionHeld3
namespace Go.Proofs.Ytplacjhmdfmocaf
open Go.RowKit

set_option maxRecDepth 100000 in
set_option maxHeartbeats 1000000 in
theorem delayTotals_walk (s0 s1 bits k : Int) (w : World) (hk0 : 0 ≤ k) (hk1 : k ≤ 255) :
    Calls Try.prog 7 #[.agg #[.int .i64 s0, .int .i64 s1], .int .u64 bits, .int .u8 k] w fun e w' => e = .returned (.bool true) ∧ Below w.heap.size w w' := by
  obtain ⟨a, ha⟩ : ∃ a, a = ticksOf s0 := ⟨_, rfl⟩
  obtain ⟨c, hc⟩ : ∃ c, c = ticksOf s1 := ⟨_, rfl⟩
  have RA := Lib.hid (hc ▸ ticksOf_range s1)
  have RB := Lib.hid (ha ▸ ticksOf_range s0)
  have TA := Lib.hid ha
  have TC := Lib.hid hc
  clear ha hc
  have hfb := fun W => fromBits bits W
  have hsf := fun (A : Addr) (m : Mode) (W : World) => run_store Try.prog W A (.float .f64 bits.toNat) m rfl
  go_enter Try.func7, Try.ntmps7
  go_wp2_with (fail)
  go_region_held3 (fun w' => w'.cell? ⟨w.heap.size, 0, none⟩ = some (.int .i64 s0) ∧ w'.cell? ⟨w.heap.size, 1, none⟩ = some (.int .i64 s1)) (go_keep)
    (first
    | (go_at_call 15; refine (ticks_any s0 _).mono ?_; rintro e w' ⟨rfl, rfl⟩; rw [← TA.out])
    | (go_at_call 15; refine (ticks_any s1 _).mono ?_; rintro e w' ⟨rfl, rfl⟩; rw [← TC.out]))
  all_goals
    generalize hG : w.heap.size + 1 = g
    clear hsf hfb
    have hrow : ((w.alloc (.cells #[.int .i64 s0, .int .i64 s1] 31)).alloc (.cells #[.int .i64 0, .int .i64 a, .int .i64 c, .int .i64 0, .float .f64 bits.toNat] 28)).drew.heap[g]? = some (.cells #[.int .i64 0, .int .i64 a, .int .i64 c, .int .i64 0, .float .f64 bits.toNat] 28) := by
      have h := row_alloc (w.alloc (.cells #[.int .i64 s0, .int .i64 s1] 31)) (.cells #[.int .i64 0, .int .i64 a, .int .i64 c, .int .i64 0, .float .f64 bits.toNat] 28)
      rw [show (w.alloc (.cells #[.int .i64 s0, .int .i64 s1] 31)).heap.size = g by simp [hG]] at h
      exact h
    have hsz : g < ((w.alloc (.cells #[.int .i64 s0, .int .i64 s1] 31)).alloc (.cells #[.int .i64 0, .int .i64 a, .int .i64 c, .int .i64 0, .float .f64 bits.toNat] 28)).drew.heap.size := by simp; omega
    have hbl : Below w.heap.size w ((w.alloc (.cells #[.int .i64 s0, .int .i64 s1] 31)).alloc (.cells #[.int .i64 0, .int .i64 a, .int .i64 c, .int .i64 0, .float .f64 bits.toNat] 28)).drew := (((Below.refl _ _).alloc (Nat.le_refl _) _).alloc (by simp) _).drew
    generalize hWW : ((w.alloc (.cells #[.int .i64 s0, .int .i64 s1] 31)).alloc (.cells #[.int .i64 0, .int .i64 a, .int .i64 c, .int .i64 0, .float .f64 bits.toNat] 28)).drew = W at *
    clear hWW
    have H := Lib.hid (And.intro hrow (And.intro hsz hbl))
    clear hrow hsz hbl
    have hkw : IntKind.i64.wrap k = k := by rw [IntKind.wrap_i64]; omega
    have hkw1 : IntKind.i64.wrap (k + 1) = k + 1 := by rw [IntKind.wrap_i64]; omega
    have hc0 := fun (W' : World) (hB : Below W.heap.size W W') => (cell_of_row W' g 0 _ _ _ ((hB.block _ H.out.2.1).trans H.out.1))
    have hc1 := fun (W' : World) (hB : Below W.heap.size W W') => (cell_of_row W' g 1 _ _ _ ((hB.block _ H.out.2.1).trans H.out.1))
    have hc2 := fun (W' : World) (hB : Below W.heap.size W W') => (cell_of_row W' g 2 _ _ _ ((hB.block _ H.out.2.1).trans H.out.1))
    have hc3 := fun (W' : World) (hB : Below W.heap.size W W') => (cell_of_row W' g 3 _ _ _ ((hB.block _ H.out.2.1).trans H.out.1))
    have hc4 := fun (W' : World) (hB : Below W.heap.size W W') => (cell_of_row W' g 4 _ _ _ ((hB.block _ H.out.2.1).trans H.out.1))
    have HC := Lib.hid (And.intro hc0 (And.intro hc1 (And.intro hc2 (And.intro hc3 hc4))))
    clear hc0 hc1 hc2 hc3 hc4
    have z0 := HC.out.1 W (Below.refl _ _)
    have z1 := HC.out.2.1 W (Below.refl _ _)
    have z2 := HC.out.2.2.1 W (Below.refl _ _)
    have z3 := HC.out.2.2.2.1 W (Below.refl _ _)
    have z4 := HC.out.2.2.2.2 W (Below.refl _ _)
    simp at z0 z1 z2 z3 z4
    go_wp2_with (fail)
    refine (delayTotal_yes 0 a c 0 k bits.toNat _ RB.out.1 RB.out.2 RA.out.1 RA.out.2 hk0 (by omega)).mono ?_
    rintro e w3 ⟨rfl, hb3⟩
    clear z0 z1 z2 z3 z4
    have z0 := HC.out.1 w3 hb3
    have z1 := HC.out.2.1 w3 hb3
    have z2 := HC.out.2.2.1 w3 hb3
    have z3 := HC.out.2.2.2.1 w3 hb3
    have z4 := HC.out.2.2.2.2 w3 hb3
    simp at z0 z1 z2 z3 z4
    have B3 := Lib.hid hb3
    clear hb3
    go_wp2_with (fail)
    refine (delayTotal_yes 0 a c 0 (k + 1) bits.toNat _ RB.out.1 RB.out.2 RA.out.1 RA.out.2 (by omega) (by omega)).mono ?_
    rintro e w4 ⟨rfl, hb4⟩
    have hb5 := B3.out.trans (hb4.mono B3.out.size)
    clear z0 z1 z2 z3 z4 hb4
    have z0 := HC.out.1 w4 hb5
    have z1 := HC.out.2.1 w4 hb5
    have z2 := HC.out.2.2.1 w4 hb5
    have z3 := HC.out.2.2.2.1 w4 hb5
    have z4 := HC.out.2.2.2.2 w4 hb5
    simp at z0 z1 z2 z3 z4
    have B4 := Lib.hid hb5
    clear hb5
    go_wp2_with (fail)
    refine (delayNext_yes 0 a c 0 k bits.toNat _ RB.out.1 RB.out.2 RA.out.1 RA.out.2 (by omega) (by omega)).mono ?_
    rintro e w5 ⟨rfl, hb5⟩
    have hb6 := B4.out.trans (hb5.mono B4.out.size)
    clear z0 z1 z2 z3 z4 hb5
    have B5 := Lib.hid hb6
    clear hb6
    go_wp2_with (fail)
    refine (alive_any _).mono ?_
    rintro e w6 ⟨rfl, hb6⟩
    have hb7 := B5.out.trans (hb6.mono B5.out.size)
    have z2 := HC.out.2.2.1 w6 hb7
    simp at z2
    have B6 := Lib.hid hb7
    clear hb6 hb7
    have T := totD_bounds a c bits.toNat RA.out.1 RA.out.2 k.toNat
    have hN := nextD_bounds a c bits.toNat k.toNat RA.out.1 RA.out.2
    have hkc : k * c ≤ 255 * 1099511627776 := Int.mul_le_mul hk1 RA.out.2 RA.out.1 (by omega)
    have hk2 : ((k.toNat : Nat) : Int) = k := by omega
    rw [hk2] at T
    have hkc0 : 0 ≤ k * c := Int.mul_nonneg hk0 RA.out.1
    have hmw : IntKind.i64.wrap (k * c) = k * c := by rw [IntKind.wrap_i64]; omega
    have htw : IntKind.i64.wrap (totD a c bits.toNat k.toNat + nextD a c bits.toNat k.toNat) = totD a c bits.toNat (k + 1).toNat := by
      rw [show (k + 1).toNat = k.toNat + 1 by omega, show totD a c bits.toNat (k.toNat + 1) = totD a c bits.toNat k.toNat + nextD a c bits.toNat k.toNat from rfl, IntKind.wrap_i64]
      have := RA.out.2
      omega
    have hpos := T.1
    have hle := T.2
    clear T hN hkc hk2 hkc0
    go_wp2
    go_ret
    exact ⟨rfl, H.out.2.2.trans (B6.out.mono H.out.2.2.size)⟩

theorem delayTotals_go (s0 s1 bits k : Int) (w : World) (_ : (Lit.int .u64 bits).wf = true) (h : (Lit.int .u8 k).wf = true) :
    Calls Try.prog 7 #[.agg #[.int .i64 s0, .int .i64 s1], .int .u64 bits, .int .u8 k] w fun e w' => e = .returned (.bool true) ∧ Below w.heap.size w w' := by
  have hk : 0 ≤ k ∧ k ≤ 255 := by simpa [Lit.wf, IntKind.min, IntKind.max, IntKind.signed, IntKind.bits] using h
  exact delayTotals_walk s0 s1 bits k w hk.1 hk.2
end Go.Proofs.Ytplacjhmdfmocaf
