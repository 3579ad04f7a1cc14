/- DelayBounds: the walk. -/
import Derived.Test.YtplacjhmdfmocafDelay4
import Derived.Test.YtplacjhmdfmocafFloat5
import Derived.Deep.RegionHeld3
namespace Go.Proofs.Ytplacjhmdfmocaf
open Go.RowKit Ieee

theorem order_neg (m : Nat) (i : Int) : Datum.order (.number true m i) (double.read 4607182418800017408) = some .lt := by
  rw [read_word 4607182418800017408 (by omega), show mag 4607182418800017408 = 4503599627370496 by decide]
  generalize exs 4607182418800017408 = e
  simp only [Datum.order, signed, if_true, Bool.false_eq_true, if_false, Nat.shiftLeft_eq]
  have h1 : 0 < 4503599627370496 * 2 ^ ((-1074 : Int) + (e : Int) - min i (-1074 + (e : Int))).toNat := Nat.mul_pos (by omega) (Nat.two_pow_pos _)
  rw [(int_lt _ _).2 (by omega)]

theorem big_of_ge (P : Nat) (hP : P < 2 ^ 64) (h : FloatKind.f64.format.order P 4607182418800017408 = some Ordering.gt ∨ FloatKind.f64.format.order P 4607182418800017408 = some Ordering.eq) : big P := by
  have hlt : lt64 P 4607182418800017408 = false := by
    unfold lt64
    rcases h with h | h <;> rw [h] <;> rfl
  rcases Nat.lt_or_ge P 9218868437227405312 with h1 | h1
  · refine .inr ⟨h1, fun T hT => ?_⟩
    rw [lt_word P _ h1 (by omega)] at hlt
    have h2 : V 4607182418800017408 ≤ V P := Nat.not_lt.1 (of_decide_eq_false hlt)
    refine Nat.le_trans (Nat.le_of_eq ?_) h2
    unfold V
    rw [show mag 4607182418800017408 = 2 ^ 52 by decide, ← Nat.pow_add]
    rw [show T = 52 + exs 4607182418800017408 by rw [show exs 4607182418800017408 = 1022 by decide]; omega]
  · by_cases hE : P = 9218868437227405312
    · exact .inl hE
    · exfalso
      obtain ⟨e4, e5, e6, e7, _⟩ := consts
      have h0 : FloatKind.f64.format.order P 4607182418800017408 = (double.read P).order (double.read 4607182418800017408) := rfl
      rw [h0] at h
      have hcase : (∃ s f, double.read P = .nan s f) ∨ (∃ m i, double.read P = .number true m i) ∨ double.read P = .infinity true := by
        unfold Format.read
        simp only [e4, e5, e6, e7]
        rcases Nat.lt_or_ge P 9223372036854775808 with hs | hs
        · have h1' : P % 9223372036854775808 = P := Nat.mod_eq_of_lt hs
          rw [h1', if_neg (by omega), if_neg (by omega), if_neg (by omega)]
          exact .inl ⟨_, _, rfl⟩
        · have h2 : (P / 9223372036854775808 % 2 == 1) = true := by
            have : P / 9223372036854775808 = 1 := by omega
            rw [this]
            rfl
          rw [h2]
          split
          · exact .inr (.inl ⟨_, _, rfl⟩)
          · split
            · exact .inr (.inl ⟨_, _, rfl⟩)
            · split
              · exact .inr (.inr rfl)
              · exact .inl ⟨_, _, rfl⟩
      rcases hcase with ⟨s, f, hr⟩ | ⟨m, i, hr⟩ | hr
      · rw [hr] at h
        rcases h with h | h <;> simp [Datum.order] at h
      · rw [hr, order_neg] at h
        rcases h with h | h <;> cases h
      · rw [hr, read_word 4607182418800017408 (by omega)] at h
        rcases h with h | h <;> simp [Datum.order] at h

set_option maxRecDepth 100000 in
set_option maxHeartbeats 2000000 in
theorem delayBounds_walk (s0 s1 : Int) (P k : Nat) (w : World) (hP : P < 2 ^ 64) (hk : k ≤ 255) :
    Calls Try.prog 4 #[.agg #[.int .i64 s0, .int .i64 s1], .int .u64 P, .int .u8 k] w fun e w' => e = .returned (.bool true) ∧ Below w.heap.size w w' := by
  obtain ⟨b, hb⟩ := Int.eq_ofNat_of_zero_le (ticksOf_range s0).1
  obtain ⟨C, hC⟩ := Int.eq_ofNat_of_zero_le (ticksOf_range s1).1
  have rb := (ticksOf_range s0).2
  have rC := (ticksOf_range s1).2
  rw [hb] at rb
  rw [hC] at rC
  have TB := Lib.hid hb
  have TC := Lib.hid hC
  have RB := Lib.hid rb
  have RC := Lib.hid rC
  have HP := Lib.hid hP
  clear hb hC rb rC hP
  have hfb : ∀ W, (callFunc 18 #[.int .u64 (P : Int)]).run Try.prog W = .ok (.value (.float .f64 P)) W := fun W => fromBits P W
  have hsf := fun (A : Addr) (m : Mode) (W : World) => run_store Try.prog W A (.float .f64 P) m rfl
  go_enter Try.func4, Try.ntmps4
  go_wp2_with (fail)
  go_quiet (fail)
  go_wp2_with (fail)
  refine (ticks_any s0 _).mono ?_
  rintro e w1 ⟨rfl, rfl⟩
  rw [TB.out]
  go_wp2_with (fail)
  refine (ticks_any s1 _).mono ?_
  rintro e w1 ⟨rfl, rfl⟩
  rw [TC.out]
  go_wp2_with (fail)
  have hrow : (((w.alloc (.cells #[.int .i64 s0, .int .i64 s1] 31)).drewN nq).alloc (.cells #[.int .i64 0, .int .i64 (b : Int), .int .i64 (C : Int), .int .i64 0, .float .f64 P] 28)).heap[w.heap.size + 1]? = some (.cells #[.int .i64 0, .int .i64 (b : Int), .int .i64 (C : Int), .int .i64 0, .float .f64 P] 28) := by
    have h := row_alloc ((w.alloc (.cells #[.int .i64 s0, .int .i64 s1] 31)).drewN nq) (.cells #[.int .i64 0, .int .i64 (b : Int), .int .i64 (C : Int), .int .i64 0, .float .f64 P] 28)
    rw [show ((w.alloc (.cells #[.int .i64 s0, .int .i64 s1] 31)).drewN nq).heap.size = w.heap.size + 1 by show (w.alloc _).heap.size = _; simp] at h
    exact h
  have hsz : w.heap.size + 1 < (((w.alloc (.cells #[.int .i64 s0, .int .i64 s1] 31)).drewN nq).alloc (.cells #[.int .i64 0, .int .i64 (b : Int), .int .i64 (C : Int), .int .i64 0, .float .f64 P] 28)).heap.size := by simp
  have hbl : Below w.heap.size w (((w.alloc (.cells #[.int .i64 s0, .int .i64 s1] 31)).drewN nq).alloc (.cells #[.int .i64 0, .int .i64 (b : Int), .int .i64 (C : Int), .int .i64 0, .float .f64 P] 28)) := (drawN_below ((Below.refl _ _).alloc (Nat.le_refl _) _) _).alloc (by show w.heap.size ≤ (w.alloc _).heap.size; simp) _
  generalize (((w.alloc (.cells #[.int .i64 s0, .int .i64 s1] 31)).drewN nq).alloc (.cells #[.int .i64 0, .int .i64 (b : Int), .int .i64 (C : Int), .int .i64 0, .float .f64 P] 28)) = W0 at *
  generalize w.heap.size + 1 = g at *
  have H0 := Lib.hid (And.intro hrow (And.intro hsz hbl))
  clear hrow hsz hbl hsf hfb
  go_loopw [28, 10] (fun i x wr => ∃ j : Nat, j ≤ k + 1 ∧ i = .int .i64 j ∧ x = .int .i64 (if j = 0 then 0 else nextD (b : Int) (C : Int) P (j - 1)) ∧ Below W0.heap.size W0 wr) (fun i _ _ => k + 1 - (intOf i).toNat)
  case atStart => exact ⟨0, by omega, rfl, rfl, Below.refl _ _⟩
  case round =>
    obtain ⟨j, hj, rfl, rfl, hB⟩ := hrel
    have HB := Lib.hid hB
    clear hB
    by_cases hlt : j < k + 1
    · have hlt' : (j : Int) < (k : Int) + 1 := by omega
      have hn := nextD_bounds (b : Int) (C : Int) P j (by omega) RC.out
      obtain ⟨n, hnn⟩ : ∃ n, n = nextD (b : Int) (C : Int) P j := ⟨_, rfl⟩
      rw [← hnn] at hn
      have hfirst : j = 0 → n = min (b : Int) (C : Int) := by
        intro h0
        rw [hnn, h0]
        have rC := RC.out
        have rb := RB.out
        show goD P (f64 (C : Int)) (C : Int) 0 (f64 (b : Int)) = _
        unfold goD
        have hz : lt64 (f64 (b : Int)) 0 = false := by
          have h := lt_nat b 0 (by omega) (by omega)
          rw [f64_zero] at h
          simpa using h
        rw [lt_nat b C (by omega) (by omega), hz, cut_nat b (by omega)]
        by_cases h : b < C
        · simp [h]; omega
        · simp [h]; omega
      have hgrow : big P → (if j = 0 then 0 else nextD (b : Int) (C : Int) P (j - 1)) ≤ n := by
        intro hbig
        by_cases h0 : j = 0
        · rw [if_pos h0]; exact hn.1
        · have rC := RC.out
          have rb := RB.out
          have h := nextD_mono b C P (j - 1) (by omega) (by omega) hbig
          rw [show j - 1 + 1 = j by omega, ← hnn] at h
          rw [if_neg h0]
          exact h
      generalize (if j = 0 then 0 else nextD (b : Int) (C : Int) P (j - 1)) = last at *
      have hr := (HB.out.block _ H0.out.2.1).trans H0.out.1
      have z0 := cell_of_row wr g 0 _ _ _ hr
      have z1 := cell_of_row wr g 1 _ _ _ hr
      have z2 := cell_of_row wr g 2 _ _ _ hr
      have z3 := cell_of_row wr g 3 _ _ _ hr
      have z4 := cell_of_row wr g 4 _ _ _ hr
      simp at z0 z1 z2 z3 z4
      clear hr
      have HLT := Lib.hid hlt
      have HF := Lib.hid hfirst
      have HG := Lib.hid hgrow
      have HN := Lib.hid hnn
      clear hj hlt hfirst hgrow hnn
      go_wp2_with (fail)
      refine (delayNext_yes 0 b C 0 (j : Int) P _ (by omega) RB.out (by omega) RC.out (by omega) (by omega)).mono ?_
      rintro e w2 ⟨rfl, hb2⟩
      rw [Int.toNat_natCast, ← HN.out]
      have HB2 := Lib.hid (HB.out.trans (hb2.mono HB.out.size))
      clear hb2 z0 z1 z2 z3 z4 HB
      have hr := (HB2.out.block _ H0.out.2.1).trans H0.out.1
      have z1 := cell_of_row w2 g 1 _ _ _ hr
      have z2 := cell_of_row w2 g 2 _ _ _ hr
      have z4 := cell_of_row w2 g 4 _ _ _ hr
      simp at z1 z2 z4
      clear hr
      have n0 : ¬ n < 0 := by omega
      have n1 : ¬ (C : Int) < n := by omega
      clear hn
      have hclose : (∃ j', j' ≤ k + 1 ∧ Value.int .i64 ((j : Int) + 1) = Value.int .i64 (j' : Int) ∧ Value.int .i64 n = Value.int .i64 (if j' = 0 then 0 else nextD (b : Int) (C : Int) P (j' - 1)) ∧ Below W0.heap.size W0 w2) ∧ k + 1 - (intOf (Value.int .i64 ((j : Int) + 1))).toNat < k + 1 - (intOf (Value.int .i64 (j : Int))).toNat := by
        refine ⟨⟨j + 1, HLT.out, by simp, ?_, HB2.out⟩, ?_⟩
        · rw [if_neg (by omega), Nat.add_sub_cancel, ← HN.out]
        · have := HLT.out
          simp [intOf]
          omega
      have HCL := Lib.hid hclose
      clear hclose
      by_cases hge : FloatKind.f64.format.order P 4607182418800017408 = some Ordering.gt ∨ FloatKind.f64.format.order P 4607182418800017408 = some Ordering.eq
      · have hl : ¬ n < last := Int.not_lt.2 (HG.out (big_of_ge P HP.out hge))
        by_cases hj0 : j = 0
        · have hmin : min (b : Int) (C : Int) = n := (HF.out hj0).symm
          have hje : (j : Int) = 0 := by omega
          have hc := HCL.out
          rw [hje] at hc
          have HC2 := Lib.hid hc
          clear hc
          go_wp2_with (fail)
          all_goals first | exact HC2.out | (rw [hje]; exact HC2.out)
        · have hje : ¬ (j : Int) = 0 := by omega
          go_wp2_with (fail)
          all_goals first | exact HCL.out
      · by_cases hj0 : j = 0
        · have hmin : min (b : Int) (C : Int) = n := (HF.out hj0).symm
          have hje : (j : Int) = 0 := by omega
          have hc := HCL.out
          rw [hje] at hc
          have HC2 := Lib.hid hc
          clear hc
          go_wp2_with (fail)
          all_goals first | exact HC2.out | (rw [hje]; exact HC2.out)
        · have hje : ¬ (j : Int) = 0 := by omega
          go_wp2_with (fail)
          all_goals first | exact HCL.out
    · have hjk : j = k + 1 := by omega
      subst hjk
      clear hj hlt
      go_wp2_with (fail)
      refine (alive_any _).mono ?_
      rintro e w2 ⟨rfl, hb2⟩
      go_wp2
      go_ret
      have h1 := HB.out.trans (hb2.mono HB.out.size)
      exact ⟨rfl, H0.out.2.2.trans (h1.mono H0.out.2.2.size)⟩

theorem delayBounds_go (s0 s1 P k : Int) (w : World) (h2 : (Lit.int .u64 P).wf = true) (h1 : (Lit.int .u8 k).wf = true) :
    Calls Try.prog 4 #[.agg #[.int .i64 s0, .int .i64 s1], .int .u64 P, .int .u8 k] w fun e w' => e = .returned (.bool true) ∧ Below w.heap.size w w' := by
  have hk : 0 ≤ k ∧ k ≤ 255 := by simpa [Lit.wf, IntKind.min, IntKind.max, IntKind.signed, IntKind.bits] using h1
  have hP : 0 ≤ P ∧ P ≤ 18446744073709551615 := by simpa [Lit.wf, IntKind.min, IntKind.max, IntKind.signed, IntKind.bits] using h2
  obtain ⟨K, rfl⟩ := Int.eq_ofNat_of_zero_le hk.1
  obtain ⟨Q, rfl⟩ := Int.eq_ofNat_of_zero_le hP.1
  exact delayBounds_walk s0 s1 Q K w (by omega) (by omega)
end Go.Proofs.Ytplacjhmdfmocaf
