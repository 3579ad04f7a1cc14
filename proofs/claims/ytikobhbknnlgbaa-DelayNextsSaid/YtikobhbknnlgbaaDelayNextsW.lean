/- DelayNexts, walked. -/
import Derived.Test.YtikobhbknnlgbaaRefKind
import Derived.Test.YtikobhbknnlgbaaDelayRef
import Derived.Test.YtikobhbknnlgbaaDelay5
import Derived.Test.YtikobhbknnlgbaaDelay4
import Derived.Deep.RegionHeld3
namespace Go.Proofs.Ytikobhbknnlgbaa
open Go.RowKit

def badX (base cap k : Int) : Prop := (base < 0 ∨ 1099511627776 < base) ∨ (cap < 0 ∨ 1099511627776 < cap) ∨ k < 0
instance (base cap k : Int) : Decidable (badX base cap k) := by unfold badX; infer_instance
/-- what Next answers, whatever it is asked -/
def nextV (base cap : Int) (F : Nat) (k : Int) : Int × Int := if badX base cap k then (0, 3) else (nextD base cap F k.toNat, 0)
def totV (base cap : Int) (F : Nat) (n : Int) : Int × Int := if badX base cap n ∨ 1000 < n then (0, 3) else (totD base cap F n.toNat, 0)
theorem delayNext_any (most base cap timeout k : Int) (F : Nat) (w : World) (k1 : k ≤ 9223372036854775807) : Calls Try.prog 36 #[cfg most base cap timeout F, .int .i64 k] w (Ret2 (nextV base cap F k).1 (nextV base cap F k).2 w) := by
  unfold nextV
  by_cases h : badX base cap k
  · rw [if_pos h]; exact delayNext_no most base cap timeout k F w h
  · rw [if_neg h]; unfold badX at h; exact delayNext_yes most base cap timeout k F w (by omega) (by omega) (by omega) (by omega) (by omega) k1
theorem refNext_any (most base cap timeout k : Int) (F : Nat) (w : World) (k1 : k ≤ 9223372036854775807) : Calls Try.prog 37 #[cfg most base cap timeout F, .int .i64 k] w (Ret2 (nextV base cap F k).1 (nextV base cap F k).2 w) := by
  unfold nextV
  by_cases h : badX base cap k
  · rw [if_pos h]; exact refNext_no most base cap timeout k F w h
  · rw [if_neg h]; unfold badX at h; exact refNext_yes most base cap timeout k F w (by omega) (by omega) (by omega) (by omega) (by omega) k1
theorem delayTotal_any (most base cap timeout k : Int) (F : Nat) (w : World) : Calls Try.prog 38 #[cfg most base cap timeout F, .int .i64 k] w (Ret2 (totV base cap F k).1 (totV base cap F k).2 w) := by
  unfold totV
  by_cases h : badX base cap k ∨ 1000 < k
  · rw [if_pos h]; unfold badX at h; exact delayTotal_no most base cap timeout k F w (by omega)
  · rw [if_neg h]; unfold badX at h; exact delayTotal_yes most base cap timeout k F w (by omega) (by omega) (by omega) (by omega) (by omega) (by omega)
theorem refTotal_any (most base cap timeout k : Int) (F : Nat) (w : World) (k1 : k ≤ 9223372036854775807) : Calls Try.prog 39 #[cfg most base cap timeout F, .int .i64 k] w (Ret2 (totV base cap F k).1 (totV base cap F k).2 w) := by
  unfold totV
  by_cases h : badX base cap k ∨ 1000 < k
  · rw [if_pos h]; unfold badX at h; exact refTotal_no most base cap timeout k F w k1 (by omega)
  · rw [if_neg h]; unfold badX at h; exact refTotal_yes most base cap timeout k F w (by omega) (by omega) (by omega) (by omega) (by omega) (by omega)
set_option maxRecDepth 100000 in
set_option maxHeartbeats 4000000 in
theorem delayNexts_walk (s0 s1 k : Int) (X : Nat) (w : World) (hX : X < 18446744073709551616) (hk : -9223372036854775808 ≤ k ∧ k ≤ 9223372036854775807) :
    Calls Try.prog 10 #[.agg #[.int .i64 s0, .int .i64 s1], .int .u64 (X : Int), .int .i64 k] w fun e w' => e = .returned (.bool true) ∧ Below w.heap.size w w' := by
  have HX := Lib.hid hX
  have HK := Lib.hid hk
  clear hX hk
  have hsf := fun (A : Addr) (m : Mode) (W : World) (F : Nat) => run_store Try.prog W A (.float .f64 F) m rfl
  have hfb : ∀ W, (callFunc 35 #[.int .u64 (X : Int)]).run Try.prog W = .ok (.value (.float .f64 X)) W := fun W => fromBits X W
  go_enter Try.func10, Try.ntmps10
  go_wp2_with (fail)
  go_quiet (fail)
  have hbn : Below w.heap.size w ((w.alloc (.cells #[.int .i64 s0, .int .i64 s1] 51)).drewN nq) := drawN_below ((Below.refl _ w).alloc (Nat.le_refl _) _) nq
  generalize (w.alloc (.cells #[.int .i64 s0, .int .i64 s1] 51)).drewN nq = w1 at *
  have hr : (w1.alloc (cfgRow 0 s0 s1 0 X)).heap[w1.heap.size]? = some (cfgRow 0 s0 s1 0 X) := row_alloc _ _
  obtain ⟨z0, z1, z2, z3, z4⟩ := cfg_cells hr
  have HB2 : Hid (Below w.heap.size w (w1.alloc (cfgRow 0 s0 s1 0 X))) := Lib.hid (hbn.alloc hbn.size _)
  have HR2 := Lib.hid hr
  clear hbn hr
  go_wp2_with (fail)
  generalize w1.alloc (cfgRow 0 s0 s1 0 X) = w2 at *
  obtain ⟨g, hg⟩ : ∃ g, g = w1.heap.size := ⟨_, rfl⟩
  rw [← hg] at z0 z1 z2 z3 z4 HR2 ⊢
  clear hg hsf hfb
  refine (delayNext_any 0 s0 s1 0 k X _ HK.out.2).mono ?_
  rintro e w3 ⟨rfl, hb3⟩
  have HR3 := Lib.hid ((hb3.block g (Array.getElem?_eq_some_iff.1 HR2.out).1).trans HR2.out)
  have HB3 : Hid (Below w.heap.size w w3) := Lib.hid (HB2.out.trans (hb3.mono HB2.out.size))
  clear hb3 z0 z1 z2 z3 z4
  obtain ⟨z0, z1, z2, z3, z4⟩ := cfg_cells HR3.out
  go_wp2_with (fail)
  refine (refNext_any 0 s0 s1 0 k X _ HK.out.2).mono ?_
  rintro e w4 ⟨rfl, hb4⟩
  have HR4 := Lib.hid ((hb4.block g (Array.getElem?_eq_some_iff.1 HR3.out).1).trans HR3.out)
  have HB4 : Hid (Below w.heap.size w w4) := Lib.hid (HB3.out.trans (hb4.mono HB3.out.size))
  clear hb4 z0 z1 z2 z3 z4
  obtain ⟨z0, z1, z2, z3, z4⟩ := cfg_cells HR4.out
  go_wp2_with (fail)
  refine (delayTotal_any 0 s0 s1 0 (min k 60) X _).mono ?_
  rintro e w5 ⟨rfl, hb5⟩
  have HR5 := Lib.hid ((hb5.block g (Array.getElem?_eq_some_iff.1 HR4.out).1).trans HR4.out)
  have HB5 : Hid (Below w.heap.size w w5) := Lib.hid (HB4.out.trans (hb5.mono HB4.out.size))
  clear hb5 z0 z1 z2 z3 z4
  obtain ⟨z0, z1, z2, z3, z4⟩ := cfg_cells HR5.out
  go_wp2_with (fail)
  refine (refTotal_any 0 s0 s1 0 (min k 60) X _ (by omega)).mono ?_
  rintro e w6 ⟨rfl, hb6⟩
  have HR6 := Lib.hid ((hb6.block g (Array.getElem?_eq_some_iff.1 HR5.out).1).trans HR5.out)
  have HB6 : Hid (Below w.heap.size w w6) := Lib.hid (HB5.out.trans (hb6.mono HB5.out.size))
  clear hb6 z0 z1 z2 z3 z4
  obtain ⟨z0, z1, z2, z3, z4⟩ := cfg_cells HR6.out
  go_wp2_with (fail)
  refine (delayTotal_no 0 s0 s1 0 1001 X _ (by omega)).mono ?_
  rintro e w7 ⟨rfl, hb7⟩
  have HR7 := Lib.hid ((hb7.block g (Array.getElem?_eq_some_iff.1 HR6.out).1).trans HR6.out)
  have HB7 : Hid (Below w.heap.size w w7) := Lib.hid (HB6.out.trans (hb7.mono HB6.out.size))
  clear hb7 z0 z1 z2 z3 z4
  obtain ⟨z0, z1, z2, z3, z4⟩ := cfg_cells HR7.out
  go_wp2_with (fail)
  generalize (nextV s0 s1 X k).1 = v1 at *
  generalize (nextV s0 s1 X k).2 = v2 at *
  generalize (totV s0 s1 X (min k 60)).1 = t1 at *
  generalize (totV s0 s1 X (min k 60)).2 = t2 at *
  have q1 : (v1 == v1) = true := by simp
  have q2 : (v2 == v2) = true := by simp
  have q3 : (t1 == t1) = true := by simp
  have q4 : (t2 == t2) = true := by simp
  go_region_held3 (fun w' => w'.cell? ⟨g, 4, none⟩ = some (.float .f64 X)) (go_keep)
    (first
    | (go_at_call 40; go_loud ((refine (alive_any _).mono ?_; rintro e w9 ⟨rfl, hb9⟩; have hbT : Below w7.heap.size w7 w9 := (by first | exact hb9 | exact (Below.refl _ _).drew.trans hb9); have HB9 : Hid (Below w.heap.size w w9) := Lib.hid (HB7.out.trans (hbT.mono HB7.out.size)); have z9 : w9.cell? ⟨g, 4, none⟩ = some (.float .f64 X) := cell_of_row _ _ 4 _ _ _ ((hbT.block g (Array.getElem?_eq_some_iff.1 HR7.out).1).trans HR7.out); clear hb9 hbT)))
    | (go_at_call 41; refine (delayKind X HX.out _).mono ?_; rintro e w' ⟨rfl, rfl⟩)
    | (go_at_call 42; refine (refKind X HX.out _).mono ?_; rintro e w' ⟨rfl, rfl⟩))
  all_goals
    go_wp2_with (fail)
    go_ret
    exact ⟨by simp, HB9.out⟩
theorem delayNexts_go (s0 s1 bits k : Int) (w : World) (h1 : (Lit.int .u64 bits).wf = true) (h2 : (Lit.int .i64 k).wf = true) :
    Calls Try.prog 10 #[.agg #[.int .i64 s0, .int .i64 s1], .int .u64 bits, .int .i64 k] w fun e w' => e = .returned (.bool true) ∧ Below w.heap.size w w' := by
  have hb : 0 ≤ bits ∧ bits ≤ 18446744073709551615 := by simpa [Lit.wf, IntKind.min, IntKind.max, IntKind.signed, IntKind.bits] using h1
  have hk : -9223372036854775808 ≤ k ∧ k ≤ 9223372036854775807 := by simpa [Lit.wf, IntKind.min, IntKind.max, IntKind.signed, IntKind.bits] using h2
  obtain ⟨X, rfl⟩ := Int.eq_ofNat_of_zero_le hb.1
  exact delayNexts_walk s0 s1 k X w (by omega) hk
end Go.Proofs.Ytikobhbknnlgbaa
