/- Layer 12: what delay.Next answers, over this seat's translation. -/
import Derived.Test.YtikobhbknnlgbaaBase
import Derived.Test.YtikobhbknnlgbaaFloat
namespace Go.Proofs.Ytikobhbknnlgbaa
open Go.RowKit

/-- how long is waited, from d on, with so many products to come -/
def goD (F capF : Nat) (cap : Int) : Nat → Nat → Int
  | 0, d => if lt64 d capF then (if lt64 d 0 then 0 else (floatToIntVal .f64 d .i64).getD 0) else cap
  | k + 1, d => if lt64 d capF then (match floatBits .mul .f64 d F with | some r => goD F capF cap k r | none => cap) else cap
def nextD (base cap : Int) (F : Nat) (k : Nat) : Int := goD F (f64 cap) cap (min k 1000) (f64 base)

theorem goD_bounds (F : Nat) (C : Nat) (hC : C ≤ 2 ^ 40) : ∀ (k d : Nat), 0 ≤ goD F (f64 (C : Int)) (C : Int) k d ∧ goD F (f64 (C : Int)) (C : Int) k d ≤ (C : Int) := by
  intro k
  induction k with
  | zero =>
    intro d
    unfold goD
    cases h1 : lt64 d (f64 (C : Int)) with
    | false => simp
    | true =>
      cases h2 : lt64 d 0 with
      | true => simp
      | false =>
        obtain ⟨n, hn, hle⟩ := cut_below d C hC h1 h2
        rw [hn]
        simp
        omega
  | succ k ih =>
    intro d
    unfold goD
    cases h1 : lt64 d (f64 (C : Int)) with
    | false => simp
    | true =>
      cases h2 : floatBits .mul .f64 d F with
      | none => simp
      | some r => simpa using ih r
theorem nextD_bounds (base cap : Int) (F k : Nat) (h0 : 0 ≤ cap) (h1 : cap ≤ 1099511627776) : 0 ≤ nextD base cap F k ∧ nextD base cap F k ≤ cap := by
  obtain ⟨C, rfl⟩ := Int.eq_ofNat_of_zero_le h0
  exact goD_bounds F C (by omega) _ _

theorem rightTicks_yes (n : Int) (w : World) (h0 : 0 ≤ n) (h1 : n ≤ 1099511627776) : Calls Try.prog 49 #[.int .i64 n] w fun e w' => e = .returned (.bool true) ∧ w = w' := by
  go_enter Try.func49, Try.ntmps49
  go_wp2
  go_ret
  exact ⟨rfl, rfl⟩
theorem rightTicks_no (n : Int) (w : World) (h : n < 0 ∨ 1099511627776 < n) : Calls Try.prog 49 #[.int .i64 n] w fun e w' => e = .returned (.bool false) ∧ w = w' := by
  rcases h with h | h
  · go_enter Try.func49, Try.ntmps49
    go_wp2
    go_ret
    exact ⟨rfl, rfl⟩
  · go_enter Try.func49, Try.ntmps49
    go_wp2
    go_ret
    exact ⟨by simp; omega, rfl⟩

/-- a config, by value -/
abbrev cfg (most base cap timeout : Int) (F : Nat) : Value := .agg #[.int .i64 most, .int .i64 base, .int .i64 cap, .int .i64 timeout, .float .f64 F]

/-- what a call gives that answers two numbers, and leaves what was there -/
def Ret2 (x err : Int) (w : World) (e : Ending) (w' : World) : Prop := e = .returned (.tuple #[.int .i64 x, .int .i64 err]) ∧ Below w.heap.size w w'

set_option maxRecDepth 100000 in
set_option maxHeartbeats 1000000 in
theorem delayNext_yes (most base cap timeout k : Int) (F : Nat) (w : World) (b0 : 0 ≤ base) (b1 : base ≤ 1099511627776) (c0 : 0 ≤ cap) (c1 : cap ≤ 1099511627776) (k0 : 0 ≤ k) (k1 : k ≤ 9223372036854775807) :
    Calls Try.prog 36 #[cfg most base cap timeout F, .int .i64 k] w (Ret2 (nextD base cap F k.toNat) 0 w) := by
  obtain ⟨m, hm⟩ : ∃ m : Nat, m = min k.toNat 1000 := ⟨_, rfl⟩
  have hR : nextD base cap F k.toNat = goD F (f64 cap) cap m (f64 base) := by unfold nextD; rw [hm]
  have hmin : min k 1000 = (m : Int) := by omega
  rw [hR]
  have hm1 : m ≤ 1000 := by omega
  clear hm hR
  generalize hcap : f64 cap = cf
  have HCF := Lib.hid hcap
  generalize hr : goD F cf cap m (f64 base) = R
  have HR := Lib.hid hr
  have hcap' : floatOfInt .f64 cap = cf := hcap
  clear hr hcap
  go_enter Try.func36, Try.ntmps36
  go_wp2_with (fail)
  refine (rightTicks_yes base _ b0 b1).mono ?_
  rintro e w1 ⟨rfl, rfl⟩
  go_wp2_with (fail)
  refine (rightTicks_yes cap _ c0 c1).mono ?_
  rintro e w1 ⟨rfl, rfl⟩
  go_wp2_with (fail)
  go_quiet (fail)
  go_wp2_with (fail)
  go_loopw [30, 6] (fun i x wr => ∃ (j d q : Nat), j ≤ m ∧ i = .int .i64 j ∧ x = .float .f64 d ∧ Hid (goD F cf cap (m - j) d = R) ∧ wr = (w.alloc (.cells #[.int .i64 most, .int .i64 base, .int .i64 cap, .int .i64 timeout, .float .f64 F] 56)).drewN q) (fun i _ _ => m - (intOf i).toNat)
  case atStart => exact ⟨0, _, nq, Nat.zero_le _, rfl, rfl, HR, rfl⟩
  case round =>
    obtain ⟨j, d, q, hj, rfl, rfl, hG, rfl⟩ := hrel
    by_cases hlt : j < m
    · cases h1 : lt64 d cf with
      | false =>
        have h1' : (FloatKind.f64.format.order d cf == some .lt) = false := h1
        have hres : R = cap := by
          have := hG.out
          rw [show m - j = (m - j - 1) + 1 by omega, goD, h1] at this
          exact this.symm
        have HRES := Lib.hid hres
        clear hres h1
        go_wp2_with (fail)
        go_ret2
        rw [HRES.out]
        exact ⟨rfl, drawN_below ((Below.refl _ _).alloc (Nat.le_refl _) _) _⟩
      | true =>
        have h1' : (FloatKind.f64.format.order d cf == some .lt) = true := h1
        cases h2 : floatBits .mul .f64 d F with
        | some r =>
          have hmul := fun W : World => run_float_arith (P := Try.prog) W .mul 53 .f64 d F r h2
          have hG2 := Lib.hid (show goD F cf cap (m - (j + 1)) r = R by
            have := hG.out
            rw [show m - j = (m - (j + 1)) + 1 by omega, goD, h1, h2] at this
            exact this)
          clear h1 h2
          go_wp2_with (fail)
          go_roundw
          case rel => exact ⟨j + 1, r, q, by omega, by go_num, rfl, hG2, rfl⟩
          case measure => simp [intOf]; omega
        | none =>
          obtain ⟨b, hb, hmul⟩ := mul_nan (P := Try.prog) ((w.alloc (.cells #[.int .i64 most, .int .i64 base, .int .i64 cap, .int .i64 timeout, .float .f64 F] 56)).drewN q) 53 d F h2
          have HBN := Lib.hid hb
          clear hb
          have hres : R = cap := by
            have := hG.out
            rw [show m - j = (m - j - 1) + 1 by omega, goD, h1, h2] at this
            exact this.symm
          have HRES := Lib.hid hres
          clear hres h1 h2
          go_wp2_with (fail)
          go_roundw
          case rel =>
            refine ⟨j + 1, b, q + 1, by omega, by go_num, rfl, Lib.hid ?_, rfl⟩
            rw [HRES.out]
            cases m - (j + 1) <;> simp [goD, HBN.out]
          case measure => simp [intOf]; omega
    · have hjm : m - j = 0 := by omega
      have hG2 := hG.out
      rw [hjm, goD] at hG2
      cases h1 : lt64 d cf with
      | false =>
        have h1' : (FloatKind.f64.format.order d cf == some .lt) = false := h1
        rw [h1] at hG2
        have HRES := Lib.hid hG2
        clear hG2 h1
        go_wp2_with (fail)
        go_ret2
        rw [← HRES.out]
        exact ⟨rfl, drawN_below ((Below.refl _ _).alloc (Nat.le_refl _) _) _⟩
      | true =>
        have h1' : (FloatKind.f64.format.order d cf == some .lt) = true := h1
        rw [h1] at hG2
        cases h2 : lt64 d 0 with
        | true =>
          have h2' : (FloatKind.f64.format.order d 0 == some .lt) = true := h2
          rw [h2] at hG2
          have HRES := Lib.hid hG2
          clear hG2 h1 h2
          go_wp2_with (fail)
          go_ret2
          rw [← HRES.out]
          exact ⟨rfl, drawN_below ((Below.refl _ _).alloc (Nat.le_refl _) _) _⟩
        | false =>
          have h2' : (FloatKind.f64.format.order d 0 == some .lt) = false := h2
          rw [h2] at hG2
          obtain ⟨C, hC⟩ := Int.eq_ofNat_of_zero_le c0
          obtain ⟨x, hx, _⟩ := cut_below d C (by omega) (by rw [← hC, HCF.out]; exact h1) h2
          rw [hx] at hG2
          have hcv := fun W : World => run_convert_float_int (P := Try.prog) W 53 3 .f64 .i64 d (x : Int) (by rw [Try.underlying53]; rfl) Try.underlying3 hx
          have HRES := Lib.hid hG2
          clear hG2 h1 h2 hC hx
          go_wp2_with (fail)
          go_ret2
          rw [← HRES.out]
          exact ⟨rfl, drawN_below ((Below.refl _ _).alloc (Nat.le_refl _) _) _⟩
end Go.Proofs.Ytikobhbknnlgbaa
