/- Layer 12: the document's Next; what is refused. -/
import Derived.Test.YtikobhbknnlgbaaDelay
namespace Go.Proofs.Ytikobhbknnlgbaa
open Go.RowKit

theorem goD_false {F cf d : Nat} {cap : Int} (h : lt64 d cf = false) (k : Nat) : goD F cf cap k d = cap := by cases k <;> simp [goD, h]

set_option maxRecDepth 100000 in
set_option maxHeartbeats 1000000 in
theorem refNext_yes (most base cap timeout k : Int) (F : Nat) (w : World) (b0 : 0 ≤ base) (b1 : base ≤ 1099511627776) (c0 : 0 ≤ cap) (c1 : cap ≤ 1099511627776) (k0 : 0 ≤ k) (k1 : k ≤ 9223372036854775807) :
    Calls Try.prog 37 #[cfg most base cap timeout F, .int .i64 k] w (Ret2 (nextD base cap F k.toNat) 0 w) := by
  obtain ⟨m, hm⟩ : ∃ m : Nat, m = min k.toNat 1000 := ⟨_, rfl⟩
  have hR : nextD base cap F k.toNat = goD F (f64 cap) cap m (f64 base) := by unfold nextD; rw [hm]
  rw [hR]
  have hm1 : m ≤ 1000 := by omega
  have hkm : k = (m : Int) ∨ (1000 < k ∧ m = 1000) := by omega
  clear hm hR
  generalize hcap : f64 cap = cf
  have HCF := Lib.hid hcap
  generalize hd0 : f64 base = d0
  generalize hr : goD F cf cap m d0 = R
  have HR := Lib.hid hr
  have hcap' : floatOfInt .f64 cap = cf := hcap
  have hd0' : floatOfInt .f64 base = d0 := hd0
  clear hr hcap hd0
  cases h0 : lt64 d0 cf with
  | false =>
    have h0' : (FloatKind.f64.format.order d0 cf == some .lt) = false := h0
    have HRES := Lib.hid (HR.out.symm.trans (goD_false h0 m))
    clear h0
    rcases hkm with hk | ⟨hk, hk2⟩
    · have hk3 : ¬ 1000 < k := by omega
      clear hk
      go_enter Try.func37, Try.ntmps37
      go_wp2
      go_ret2
      rw [HRES.out]
      exact ⟨rfl, (Below.refl _ _).alloc (Nat.le_refl _) _⟩
    · clear hk2
      go_enter Try.func37, Try.ntmps37
      go_wp2
      go_ret2
      rw [HRES.out]
      exact ⟨rfl, (Below.refl _ _).alloc (Nat.le_refl _) _⟩
  | true =>
    have h0' : (FloatKind.f64.format.order d0 cf == some .lt) = true := h0
    have HL0 := Lib.hid h0
    clear h0
    rcases hkm with hk | ⟨hk, hk2⟩
    · subst hk
      have hk3 : ¬ 1000 < (m : Int) := by omega
      go_enter Try.func37, Try.ntmps37
      go_wp2
      go_loopw [7, 6] (fun i x wr => ∃ (j d q : Nat), j ≤ m ∧ i = .int .i64 j ∧ x = .float .f64 d ∧ Hid (lt64 d cf = true) ∧ Hid (goD F cf cap (m - j) d = R) ∧ wr = (w.alloc (.cells #[.int .i64 most, .int .i64 base, .int .i64 cap, .int .i64 timeout, .float .f64 F] 56)).drewN q) (fun i _ _ => m - (intOf i).toNat)
      case atStart => exact ⟨0, _, 0, Nat.zero_le _, rfl, rfl, HL0, HR, rfl⟩
      case round =>
        obtain ⟨j, d, q, hj, rfl, rfl, hL, hG, rfl⟩ := hrel
        by_cases hlt : j < m
        · have hstep := hG.out
          rw [show m - j = (m - (j + 1)) + 1 by omega, goD, hL.out] at hstep
          cases h2 : floatBits .mul .f64 d F with
          | some r =>
            have hmul := fun W : World => run_float_arith (P := Try.prog) W .mul 53 .f64 d F r h2
            rw [h2] at hstep
            simp only [if_true] at hstep
            have HG2 := Lib.hid hstep
            clear h2 hstep
            cases h1 : lt64 r cf with
            | false =>
              have h1' : (FloatKind.f64.format.order r cf == some .lt) = false := h1
              have HRES := Lib.hid (HG2.out.symm.trans (goD_false h1 _))
              clear h1
              go_wp2_with (fail)
              go_ret2
              rw [HRES.out]
              exact ⟨rfl, drawN_below ((Below.refl _ _).alloc (Nat.le_refl _) _) _⟩
            | true =>
              have h1' : (FloatKind.f64.format.order r cf == some .lt) = true := h1
              have HL1 := Lib.hid h1
              clear h1
              go_wp2_with (fail)
              go_roundw
              case rel => exact ⟨j + 1, r, q, by omega, by go_num, rfl, HL1, HG2, rfl⟩
              case measure => simp [intOf]; omega
          | none =>
            obtain ⟨b, hb, hmul⟩ := mul_nan (P := Try.prog) ((w.alloc (.cells #[.int .i64 most, .int .i64 base, .int .i64 cap, .int .i64 timeout, .float .f64 F] 56)).drewN q) 53 d F h2
            rw [h2] at hstep
            simp only [if_true] at hstep
            have HRES := Lib.hid hstep
            have h1' : (FloatKind.f64.format.order b cf == some .lt) = false := hb cf
            clear hb h2 hstep
            go_wp2_with (fail)
            go_ret2
            rw [← HRES.out]
            exact ⟨rfl, drawN_below ((Below.refl _ _).alloc (Nat.le_refl _) _) _⟩
        · have hjm : m - j = 0 := by omega
          have hG2 := hG.out
          rw [hjm, goD, hL.out] at hG2
          simp only [if_true] at hG2
          cases h2 : lt64 d 0 with
          | true =>
            have h2' : (FloatKind.f64.format.order d 0 == some .lt) = true := h2
            rw [h2] at hG2
            simp only [if_true] at hG2
            have HRES := Lib.hid hG2
            clear hG2 h2
            go_wp2_with (fail)
            go_ret2
            rw [← HRES.out]
            exact ⟨rfl, drawN_below ((Below.refl _ _).alloc (Nat.le_refl _) _) _⟩
          | false =>
            have h2' : (FloatKind.f64.format.order d 0 == some .lt) = false := h2
            rw [h2] at hG2
            obtain ⟨C, hC⟩ := Int.eq_ofNat_of_zero_le c0
            obtain ⟨x, hx, _⟩ := cut_below d C (by omega) (by rw [← hC, HCF.out]; exact hL.out) h2
            rw [hx] at hG2
            have hcv := fun W : World => run_convert_float_int (P := Try.prog) W 53 3 .f64 .i64 d (x : Int) (by rw [Try.underlying53]; rfl) Try.underlying3 hx
            have HRES := Lib.hid hG2
            clear hG2 h2 hC hx
            go_wp2_with (fail)
            go_ret2
            rw [← HRES.out]
            exact ⟨rfl, drawN_below ((Below.refl _ _).alloc (Nat.le_refl _) _) _⟩
    · subst hk2
      go_enter Try.func37, Try.ntmps37
      go_wp2
      go_loopw [7, 6] (fun i x wr => ∃ (j d q : Nat), j ≤ 1000 ∧ i = .int .i64 j ∧ x = .float .f64 d ∧ Hid (lt64 d cf = true) ∧ Hid (goD F cf cap (1000 - j) d = R) ∧ wr = (w.alloc (.cells #[.int .i64 most, .int .i64 base, .int .i64 cap, .int .i64 timeout, .float .f64 F] 56)).drewN q) (fun i _ _ => 1000 - (intOf i).toNat)
      case atStart => exact ⟨0, _, 0, Nat.zero_le _, rfl, rfl, HL0, HR, rfl⟩
      case round =>
        obtain ⟨j, d, q, hj, rfl, rfl, hL, hG, rfl⟩ := hrel
        by_cases hlt : j < 1000
        · have hstep := hG.out
          rw [show 1000 - j = (1000 - (j + 1)) + 1 by omega, goD, hL.out] at hstep
          cases h2 : floatBits .mul .f64 d F with
          | some r =>
            have hmul := fun W : World => run_float_arith (P := Try.prog) W .mul 53 .f64 d F r h2
            rw [h2] at hstep
            simp only [if_true] at hstep
            have HG2 := Lib.hid hstep
            clear h2 hstep
            cases h1 : lt64 r cf with
            | false =>
              have h1' : (FloatKind.f64.format.order r cf == some .lt) = false := h1
              have HRES := Lib.hid (HG2.out.symm.trans (goD_false h1 _))
              clear h1
              go_wp2_with (fail)
              go_ret2
              rw [HRES.out]
              exact ⟨rfl, drawN_below ((Below.refl _ _).alloc (Nat.le_refl _) _) _⟩
            | true =>
              have h1' : (FloatKind.f64.format.order r cf == some .lt) = true := h1
              have HL1 := Lib.hid h1
              clear h1
              go_wp2_with (fail)
              go_roundw
              case rel => exact ⟨j + 1, r, q, by omega, by go_num, rfl, HL1, HG2, rfl⟩
              case measure => simp [intOf]; omega
          | none =>
            obtain ⟨b, hb, hmul⟩ := mul_nan (P := Try.prog) ((w.alloc (.cells #[.int .i64 most, .int .i64 base, .int .i64 cap, .int .i64 timeout, .float .f64 F] 56)).drewN q) 53 d F h2
            rw [h2] at hstep
            simp only [if_true] at hstep
            have HRES := Lib.hid hstep
            have h1' : (FloatKind.f64.format.order b cf == some .lt) = false := hb cf
            clear hb h2 hstep
            go_wp2_with (fail)
            go_ret2
            rw [← HRES.out]
            exact ⟨rfl, drawN_below ((Below.refl _ _).alloc (Nat.le_refl _) _) _⟩
        · have hjm : 1000 - j = 0 := by omega
          have hG2 := hG.out
          rw [hjm, goD, hL.out] at hG2
          simp only [if_true] at hG2
          cases h2 : lt64 d 0 with
          | true =>
            have h2' : (FloatKind.f64.format.order d 0 == some .lt) = true := h2
            rw [h2] at hG2
            simp only [if_true] at hG2
            have HRES := Lib.hid hG2
            clear hG2 h2
            go_wp2_with (fail)
            go_ret2
            rw [← HRES.out]
            exact ⟨rfl, drawN_below ((Below.refl _ _).alloc (Nat.le_refl _) _) _⟩
          | false =>
            have h2' : (FloatKind.f64.format.order d 0 == some .lt) = false := h2
            rw [h2] at hG2
            obtain ⟨C, hC⟩ := Int.eq_ofNat_of_zero_le c0
            obtain ⟨x, hx, _⟩ := cut_below d C (by omega) (by rw [← hC, HCF.out]; exact hL.out) h2
            rw [hx] at hG2
            have hcv := fun W : World => run_convert_float_int (P := Try.prog) W 53 3 .f64 .i64 d (x : Int) (by rw [Try.underlying53]; rfl) Try.underlying3 hx
            have HRES := Lib.hid hG2
            clear hG2 h2 hC hx
            go_wp2_with (fail)
            go_ret2
            rw [← HRES.out]
            exact ⟨rfl, drawN_below ((Below.refl _ _).alloc (Nat.le_refl _) _) _⟩
end Go.Proofs.Ytikobhbknnlgbaa
