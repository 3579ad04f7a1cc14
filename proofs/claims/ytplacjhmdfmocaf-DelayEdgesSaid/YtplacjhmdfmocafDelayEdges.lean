/- DelayEdges: the walk. -/
import Derived.Test.YtplacjhmdfmocafDelay4
import Derived.Test.YtplacjhmdfmocafDelayKind
import Derived.Test.YtplacjhmdfmocafFloat3
namespace Go.Proofs.Ytplacjhmdfmocaf
open Go.RowKit

theorem next_nan (b C P n : Nat) (hn : 1 ≤ n) : nextD (b : Int) (C : Int) (nanF P) n = C := by
  unfold nextD
  rw [show min n 1000 = (min n 1000 - 1) + 1 by omega]
  exact goD_nan P C _ _
theorem next_inf (b C n : Nat) (hb : (b : Int) ≤ 1099511627776) (hn : 1 ≤ n) : nextD (b : Int) (C : Int) 9218868437227405312 n = C := by
  unfold nextD
  rw [show min n 1000 = (min n 1000 - 1) + 1 by omega]
  exact goD_inf C b _ (by omega)
theorem next_zero (b C F n : Nat) (hb : (b : Int) ≤ 1099511627776) (hC : (C : Int) ≤ 1099511627776) (hF : F = 0 ∨ F = 9223372036854775808) (hn : 1 ≤ n) : nextD (b : Int) (C : Int) F n = if b < C then 0 else (C : Int) := by
  unfold nextD
  rw [show min n 1000 = (min n 1000 - 1) + 1 by omega]
  exact goD_zero F b C _ hF (by omega) (by omega)

set_option maxRecDepth 100000 in
set_option maxHeartbeats 2000000 in
theorem delayEdges_walk (s0 s1 : Int) (k P : Nat) (w : World) (hk : k ≤ 255) (hP : P < 2 ^ 64) :
    Calls Try.prog 5 #[.agg #[.int .i64 s0, .int .i64 s1], .int .u8 k, .int .u64 P] w fun e w' => e = .returned (.bool true) ∧ Below w.heap.size w w' := by
  obtain ⟨b, hb⟩ := Int.eq_ofNat_of_zero_le (ticksOf_range s0).1
  obtain ⟨C, hC⟩ := Int.eq_ofNat_of_zero_le (ticksOf_range s1).1
  have rb := (ticksOf_range s0).2
  have rC := (ticksOf_range s1).2
  rw [hb] at rb
  rw [hC] at rC
  obtain ⟨Y, hY⟩ : ∃ Y, Y = P &&& 9227875636482146303 := ⟨_, rfl⟩
  obtain ⟨Z, hZ⟩ : ∃ Z, Z = 9218868437227405312 ||| Y := ⟨_, rfl⟩
  obtain ⟨X, hX⟩ : ∃ X, X = nanF P := ⟨_, rfl⟩
  have hYl : Y < 18446744073709551616 := by rw [hY]; exact Nat.lt_of_le_of_lt Nat.and_le_left hP
  have hZl : Z < 18446744073709551616 := by rw [hZ]; exact Nat.or_lt_two_pow (n := 64) (by decide) hYl
  have hXl : X < 18446744073709551616 := by rw [hX]; exact nanF_lt P hP
  have b1 : bits .and .u64 (P : Int) 9227875636482146303 = (Y : Int) := by rw [hY]; exact bits_and_u64_nat P 9227875636482146303 hP (by decide)
  have b2 : bits .or .u64 9218868437227405312 (Y : Int) = (Z : Int) := by rw [hZ]; exact bits_or_u64_nat 9218868437227405312 Y (by decide) hYl
  have b3 : bits .or .u64 (Z : Int) 1 = (X : Int) := by
    rw [hX]
    unfold nanF
    rw [← hY, ← hZ]
    exact bits_or_u64_nat Z 1 hZl (by decide)
  have b4 : bits .and .u64 (X : Int) 9218868437227405312 = 9218868437227405312 := by
    rw [hX]
    refine (bits_and_u64_nat (nanF P) 9218868437227405312 (hX ▸ hXl) (by decide)).trans ?_
    rw [nanF_exp]
    rfl
  have b5 : (bits .and .u64 (X : Int) 4503599627370495 != 0) = true := by
    have h := bits_and_u64_nat (nanF P) 4503599627370495 (hX ▸ hXl) (by decide)
    rw [hX]
    refine bne_iff_ne.2 fun h0 => ?_
    have h2 := h.symm.trans h0
    exact nanF_fraction P (by omega)
  have B4 := Lib.hid b4
  have B5 := Lib.hid b5
  have NX := Lib.hid (fun n hn => (hX ▸ next_nan b C P n hn : nextD (b : Int) (C : Int) X n = C))
  have NI := Lib.hid (next_inf b C)
  have NZ := Lib.hid (next_zero b C)
  have TB := Lib.hid hb
  have TC := Lib.hid hC
  have RB := Lib.hid rb
  have RC := Lib.hid rC
  clear hX hY hZ hYl hZl hXl b4 b5 hb hC rb rC hP
  have hsf := fun (A : Addr) (m : Mode) (W : World) (F : Nat) => run_store Try.prog W A (.float .f64 F) m rfl
  have hfb : ∀ W, (callFunc 18 #[.int .u64 (X : Int)]).run Try.prog W = .ok (.value (.float .f64 X)) W := fun W => fromBits X W
  go_enter Try.func5, Try.ntmps5
  go_wp2_with (fail)
  go_quiet (fail)
  go_wp2_with (fail)
  refine (ticks_any s0 _).mono ?_
  rintro e w1 ⟨rfl, rfl⟩
  rw [TB.out]
  go_wp2_with (fail)
  refine (ticks_any s1 _).mono ?_
  rintro e w1 ⟨rfl, rfl⟩
  rw [TC.out]
  go_wp2_with (fail)
  refine (mathInf_plus _).mono ?_
  rintro e w1 ⟨rfl, rfl⟩
  go_wp2_with (fail)
  have hrow : (((w.alloc (.cells #[.int .i64 s0, .int .i64 s1] 31)).drewN nq).alloc (.cells #[.float .f64 X, .float .f64 9218868437227405312] 26)).heap[w.heap.size + 1]? = some (.cells #[.float .f64 X, .float .f64 9218868437227405312] 26) := by
    have h := row_alloc ((w.alloc (.cells #[.int .i64 s0, .int .i64 s1] 31)).drewN nq) (.cells #[.float .f64 X, .float .f64 9218868437227405312] 26)
    rw [show ((w.alloc (.cells #[.int .i64 s0, .int .i64 s1] 31)).drewN nq).heap.size = w.heap.size + 1 by show (w.alloc _).heap.size = _; simp] at h
    exact h
  have hsz : w.heap.size + 1 < (((w.alloc (.cells #[.int .i64 s0, .int .i64 s1] 31)).drewN nq).alloc (.cells #[.float .f64 X, .float .f64 9218868437227405312] 26)).heap.size := by
    simp
  have hbl : Below w.heap.size w (((w.alloc (.cells #[.int .i64 s0, .int .i64 s1] 31)).drewN nq).alloc (.cells #[.float .f64 X, .float .f64 9218868437227405312] 26)) := (drawN_below ((Below.refl _ _).alloc (Nat.le_refl _) _) _).alloc (by show w.heap.size ≤ (w.alloc _).heap.size; simp) _
  generalize (((w.alloc (.cells #[.int .i64 s0, .int .i64 s1] 31)).drewN nq).alloc (.cells #[.float .f64 X, .float .f64 9218868437227405312] 26)) = W0 at *
  generalize w.heap.size + 1 = g at *
  have H0 := Lib.hid (And.intro hrow (And.intro hsz hbl))
  clear hrow hsz hbl hsf hfb b1 b2 b3
  go_loopw [41] (fun i wr => ∃ j : Nat, j ≤ 2 ∧ i = .int .i64 j ∧ Below W0.heap.size W0 wr) (fun i _ => 2 - (intOf i).toNat)
  case atStart => exact ⟨0, by omega, rfl, Below.refl _ _⟩
  case round =>
    obtain ⟨j, hj, rfl, hB⟩ := hrel
    have HB := Lib.hid hB
    clear hB
    by_cases hlt : j < 2
    · obtain ⟨F, hF, hN⟩ : ∃ F : Nat, (#[.float .f64 X, .float .f64 9218868437227405312] : Array Value)[j]? = some (.float .f64 F) ∧ nextD (b : Int) (C : Int) F (1 + (k : Int)).toNat = C := by
        have h2 : j = 0 ∨ j = 1 := by omega
        rcases h2 with rfl | rfl
        · exact ⟨X, rfl, NX.out _ (by omega)⟩
        · exact ⟨_, rfl, NI.out _ RB.out (by omega)⟩
      have hc : wr.cell? ⟨g, j, none⟩ = some (.float .f64 F) := by
        rw [cell_of_row wr _ _ _ _ _ ((HB.out.block _ H0.out.2.1).trans H0.out.1)]
        exact hF
      have HNN := Lib.hid hN
      clear hF hN
      go_wp2_with (fail)
      refine (delayNext_yes 0 b C 0 (1 + (k : Int)) F _ (by omega) RB.out (by omega) RC.out (by omega) (by omega)).mono ?_
      rintro e w2 ⟨rfl, hb2⟩
      rw [HNN.out]
      have HB2 := Lib.hid (HB.out.trans (hb2.mono HB.out.size))
      clear hb2 hc HB
      go_wp2_with (fail)
      go_roundw
      case rel => exact ⟨j + 1, by omega, by go_num, HB2.out⟩
      case measure => simp [intOf]; omega
    · have hj2 : j = 2 := by omega
      subst hj2
      clear hj hlt
      go_wp2_with (fail)
      refine (copysign_minus _).mono ?_
      rintro e w2 ⟨rfl, rfl⟩
      go_wp2_with (fail)
      have hrow1 : (wr.alloc (.cells #[.float .f64 0, .float .f64 9223372036854775808] 26)).heap[wr.heap.size]? = some (.cells #[.float .f64 0, .float .f64 9223372036854775808] 26) := row_alloc _ _
      have hsz1 : wr.heap.size < (wr.alloc (.cells #[.float .f64 0, .float .f64 9223372036854775808] 26)).heap.size := by simp
      have hbl1 : Below W0.heap.size W0 (wr.alloc (.cells #[.float .f64 0, .float .f64 9223372036854775808] 26)) := HB.out.alloc HB.out.size _
      generalize (wr.alloc (.cells #[.float .f64 0, .float .f64 9223372036854775808] 26)) = W1 at *
      generalize wr.heap.size = g1 at *
      have H1 := Lib.hid (And.intro hrow1 (And.intro hsz1 hbl1))
      clear hrow1 hsz1 hbl1 HB
      go_loopw [65] (fun i wr => ∃ j : Nat, j ≤ 2 ∧ i = .int .i64 j ∧ Below W1.heap.size W1 wr) (fun i _ => 2 - (intOf i).toNat)
      case atStart => exact ⟨0, by omega, rfl, Below.refl _ _⟩
      case round =>
        obtain ⟨j, hj, rfl, hB⟩ := hrel
        have HB1 := Lib.hid hB
        clear hB
        by_cases hlt : j < 2
        · obtain ⟨F, hF, hN⟩ : ∃ F : Nat, (#[.float .f64 0, .float .f64 9223372036854775808] : Array Value)[j]? = some (.float .f64 F) ∧ nextD (b : Int) (C : Int) F (1 + (k : Int)).toNat = if b < C then 0 else (C : Int) := by
            have h2 : j = 0 ∨ j = 1 := by omega
            rcases h2 with rfl | rfl
            · exact ⟨_, rfl, NZ.out _ _ RB.out RC.out (.inl rfl) (by omega)⟩
            · exact ⟨_, rfl, NZ.out _ _ RB.out RC.out (.inr rfl) (by omega)⟩
          have hlt' : (j : Int) < 2 := by omega
          have hc : wr.cell? ⟨g1, j, none⟩ = some (.float .f64 F) := by
            rw [cell_of_row wr _ _ _ _ _ ((HB1.out.block _ H1.out.2.1).trans H1.out.1)]
            exact hF
          have HLT := Lib.hid hlt
          clear hF hlt hj
          by_cases hbc : b < C
          · have HNN := Lib.hid (hN.trans (if_pos hbc))
            have hbc1 : (b : Int) < (C : Int) := by omega
            have hC0 : (0 : Int) < (C : Int) := by omega
            have hC1 : (0 : Int) ≠ (C : Int) := by omega
            clear hN hbc
            go_wp2_with (fail)
            refine (delayNext_yes 0 b C 0 (1 + (k : Int)) F _ (by omega) RB.out (by omega) RC.out (by omega) (by omega)).mono ?_
            rintro e w2 ⟨rfl, hb2⟩
            rw [HNN.out]
            have HB2 := Lib.hid (HB1.out.trans (hb2.mono HB1.out.size))
            clear hb2 hc HB1
            go_wp2_with (fail)
            go_roundw
            case rel => exact ⟨j + 1, HLT.out, by go_num, HB2.out⟩
            case measure => have := HLT.out; simp [intOf]; omega
          · have HNN := Lib.hid (hN.trans (if_neg hbc))
            have hbc1 : ¬ (b : Int) < (C : Int) := by omega
            clear hN hbc
            cases hC0 : ((C : Int) != 0)
            · skip
              go_wp2_with (fail)
              refine (delayNext_yes 0 b C 0 (1 + (k : Int)) F _ (by omega) RB.out (by omega) RC.out (by omega) (by omega)).mono ?_
              rintro e w2 ⟨rfl, hb2⟩
              rw [HNN.out]
              have HB2 := Lib.hid (HB1.out.trans (hb2.mono HB1.out.size))
              clear hb2 hc HB1
              go_wp2_with (fail)
              go_roundw
              case rel => exact ⟨j + 1, HLT.out, by go_num, HB2.out⟩
              case measure => have := HLT.out; simp [intOf]; omega
            · skip
              go_wp2_with (fail)
              refine (delayNext_yes 0 b C 0 (1 + (k : Int)) F _ (by omega) RB.out (by omega) RC.out (by omega) (by omega)).mono ?_
              rintro e w2 ⟨rfl, hb2⟩
              rw [HNN.out]
              have HB2 := Lib.hid (HB1.out.trans (hb2.mono HB1.out.size))
              clear hb2 hc HB1
              go_wp2_with (fail)
              go_roundw
              case rel => exact ⟨j + 1, HLT.out, by go_num, HB2.out⟩
              case measure => have := HLT.out; simp [intOf]; omega
        · have hj2 : j = 2 := by omega
          subst hj2
          clear hj hlt
          have b4 := B4.out
          have b5 := B5.out
          go_wp2_with (fail)
          refine (alive_any _).mono ?_
          rintro e w2 ⟨rfl, hb2⟩
          go_wp2_with (fail)
          refine (kind_0 X _ b4 b5).mono ?_
          rintro e w3 ⟨rfl, rfl⟩
          go_wp2_with (fail)
          refine (mathInf_plus _).mono ?_
          rintro e w3 ⟨rfl, rfl⟩
          go_wp2_with (fail)
          refine (kind_1 _).mono ?_
          rintro e w3 ⟨rfl, rfl⟩
          go_wp2_with (fail)
          refine (mathInf_minus _).mono ?_
          rintro e w3 ⟨rfl, rfl⟩
          go_wp2_with (fail)
          refine (kind_2 _).mono ?_
          rintro e w3 ⟨rfl, rfl⟩
          go_wp2_with (fail)
          refine (kind_3 _).mono ?_
          rintro e w3 ⟨rfl, rfl⟩
          go_wp2_with (fail)
          refine (copysign_minus _).mono ?_
          rintro e w3 ⟨rfl, rfl⟩
          go_wp2_with (fail)
          refine (kind_4 _).mono ?_
          rintro e w3 ⟨rfl, rfl⟩
          go_wp2_with (fail)
          refine (kind_5 _).mono ?_
          rintro e w3 ⟨rfl, rfl⟩
          go_wp2_with (fail)
          refine (kind_6 _).mono ?_
          rintro e w3 ⟨rfl, rfl⟩
          go_wp2
          go_ret
          have h1 := H1.out.2.2.trans ((HB1.out.trans (hb2.mono HB1.out.size)).mono H1.out.2.2.size)
          exact ⟨rfl, H0.out.2.2.trans (h1.mono H0.out.2.2.size)⟩

theorem delayEdges_go (s0 s1 k P : Int) (w : World) (h1 : (Lit.int .u8 k).wf = true) (h2 : (Lit.int .u64 P).wf = true) :
    Calls Try.prog 5 #[.agg #[.int .i64 s0, .int .i64 s1], .int .u8 k, .int .u64 P] w fun e w' => e = .returned (.bool true) ∧ Below w.heap.size w w' := by
  have hk : 0 ≤ k ∧ k ≤ 255 := by simpa [Lit.wf, IntKind.min, IntKind.max, IntKind.signed, IntKind.bits] using h1
  have hP : 0 ≤ P ∧ P ≤ 18446744073709551615 := by simpa [Lit.wf, IntKind.min, IntKind.max, IntKind.signed, IntKind.bits] using h2
  obtain ⟨K, rfl⟩ := Int.eq_ofNat_of_zero_le hk.1
  obtain ⟨Q, rfl⟩ := Int.eq_ofNat_of_zero_le hP.1
  exact delayEdges_walk s0 s1 K Q w (by omega) (by omega)
end Go.Proofs.Ytplacjhmdfmocaf
