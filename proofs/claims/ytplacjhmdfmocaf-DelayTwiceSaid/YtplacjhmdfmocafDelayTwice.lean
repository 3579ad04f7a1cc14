/- DelayTwice: the walk. -/
import Derived.Test.YtplacjhmdfmocafDelay4
import Derived.Test.YtplacjhmdfmocafDelayWhole
namespace Go.Proofs.Ytplacjhmdfmocaf
open Go.RowKit

theorem twice_end (b C K j : Nat) (hC : C ≤ 2 ^ 40) (hj : j ≤ K) (hstop : ¬ (j < K ∧ 0 < b * 2 ^ j ∧ b * 2 ^ j < C)) : min (b * 2 ^ (min K 1000)) C = min (b * 2 ^ j) C := by
  rcases Nat.eq_zero_or_pos b with rfl | hb
  · rw [Nat.zero_mul, Nat.zero_mul]
  have hpos : 0 < b * 2 ^ j := Nat.mul_pos hb (Nat.two_pow_pos j)
  rcases Nat.lt_or_ge (b * 2 ^ j) C with h | h
  · have hjk : j = K := by
      rcases Nat.lt_or_ge j K with h' | h'
      · exact absurd ⟨h', hpos, h⟩ hstop
      · exact Nat.le_antisymm hj h'
    subst hjk
    have hlt : j < 1000 := by
      rcases Nat.lt_or_ge j 1000 with h' | h'
      · exact h'
      · exfalso
        have h1 : 2 ^ 40 ≤ 2 ^ j := Nat.pow_le_pow_right (by omega) (by omega)
        have h2 : 2 ^ j ≤ b * 2 ^ j := Nat.le_mul_of_pos_left _ hb
        exact absurd (Nat.lt_of_lt_of_le h hC) (Nat.not_lt.2 (Nat.le_trans h1 h2))
    rw [Nat.min_eq_left (Nat.le_of_lt hlt)]
  · have h2 : C ≤ b * 2 ^ (min K 1000) := by
      rcases Nat.lt_or_ge j 1000 with h' | h'
      · have : 2 ^ j ≤ 2 ^ (min K 1000) := Nat.pow_le_pow_right (by omega) (by omega)
        exact Nat.le_trans h (Nat.mul_le_mul_left b this)
      · have h1 : 2 ^ 40 ≤ 2 ^ (min K 1000) := Nat.pow_le_pow_right (by omega) (by omega)
        exact Nat.le_trans hC (Nat.le_trans h1 (Nat.le_mul_of_pos_left _ hb))
    rw [Nat.min_eq_right h2, Nat.min_eq_right h]

set_option maxRecDepth 100000 in
set_option maxHeartbeats 1000000 in
theorem delayTwice_walk (s0 s1 k : Int) (w : World) (hk : k ≤ 9223372036854775807) :
    Calls Try.prog 3 #[.int .i64 s0, .int .i64 s1, .int .i64 k] w fun e w' => e = .returned (.bool true) ∧ Below w.heap.size w w' := by
  obtain ⟨b, hb⟩ := Int.eq_ofNat_of_zero_le (ticksOf_range s0).1
  obtain ⟨C, hC⟩ := Int.eq_ofNat_of_zero_le (ticksOf_range s1).1
  have rb := (ticksOf_range s0).2
  have rC := (ticksOf_range s1).2
  rw [hb] at rb
  rw [hC] at rC
  obtain ⟨K, hK⟩ : ∃ K : Nat, max 0 k = (K : Int) := ⟨(max 0 k).toNat, by omega⟩
  have hKm : (K : Int) ≤ 9223372036854775807 := by omega
  obtain ⟨N, hN⟩ : ∃ N : Nat, N = min (b * 2 ^ (min K 1000)) C := ⟨_, rfl⟩
  have hnext : nextD (b : Int) (C : Int) 4611686018427387904 K = (N : Int) := by
    have h := nextD_whole b 2 C K (by omega) (by omega) (by omega) (by omega)
    rw [f64_two, ← hN] at h
    exact h
  have HE := Lib.hid (fun j hj hs => hN.trans (twice_end b C K j (by omega) hj hs))
  have HN := Lib.hid hnext
  have HC := Lib.hid rC
  have HB := Lib.hid hb
  have HD := Lib.hid hC
  clear hN hnext hb hC
  go_enter Try.func3, Try.ntmps3
  go_wp2_with (fail)
  refine (ticks_any s0 _).mono ?_
  rintro e w1 ⟨rfl, rfl⟩
  rw [HB.out]
  go_wp2_with (fail)
  refine (ticks_any s1 _).mono ?_
  rintro e w1 ⟨rfl, rfl⟩
  rw [HD.out]
  go_wp2_with (fail)
  refine (delayNext_yes 0 b C 0 K 4611686018427387904 _ (by omega) rb (by omega) rC (by omega) hKm).mono ?_
  rintro e w1 ⟨rfl, hb1⟩
  rw [Int.toNat_natCast, HN.out]
  have H1 := Lib.hid hb1
  clear hb1 rb rC
  go_wp2_with (fail)
  go_loopw [9, 10] (fun x i wr => ∃ j : Nat, j ≤ K ∧ x = .int .i64 ((b * 2 ^ j : Nat) : Int) ∧ i = .int .i64 (j : Int) ∧ wr = w1) (fun _ i _ => K - (intOf i).toNat)
  case atStart => exact ⟨0, by omega, by simp, rfl, rfl⟩
  case round =>
    obtain ⟨j, hj, rfl, rfl, rfl⟩ := hrel
    have hx2 : b * 2 ^ (j + 1) = b * 2 ^ j * 2 := by rw [Nat.pow_succ, Nat.mul_assoc]
    generalize hx : b * 2 ^ j = x at *
    have HX := Lib.hid hx
    clear hx
    by_cases h1 : j < K
    · by_cases h2 : (0 : Int) < (x : Int)
      · by_cases h3 : (x : Int) < (C : Int)
        · have hw : IntKind.i64.wrap ((x : Int) * 2) = (x : Int) * 2 := by
            have := HC.out
            rw [IntKind.wrap_i64]
            omega
          have HX2 := Lib.hid hx2
          have HJ := Lib.hid h1
          clear hx2 hj
          go_wp2_with (fail)
          go_roundw
          case rel => exact ⟨j + 1, HJ.out, by rw [HX2.out]; simp, by go_num, trivial⟩
          case measure => have := HJ.out; simp [intOf]; omega
        · have hmin : min (x : Int) (C : Int) = (N : Int) := by
            have := HE.out j hj (by rw [HX.out]; omega)
            rw [HX.out] at this
            omega
          clear hj
          go_wp2_with (fail)
          refine (alive_any _).mono ?_
          rintro e w3 ⟨rfl, hb3⟩
          go_wp2
          go_ret
          exact ⟨rfl, H1.out.trans (hb3.mono H1.out.size)⟩
      · have hmin : min (x : Int) (C : Int) = (N : Int) := by
          have := HE.out j hj (by rw [HX.out]; omega)
          rw [HX.out] at this
          omega
        clear hj
        go_wp2_with (fail)
        refine (alive_any _).mono ?_
        rintro e w3 ⟨rfl, hb3⟩
        go_wp2
        go_ret
        exact ⟨rfl, H1.out.trans (hb3.mono H1.out.size)⟩
    · have hmin : min (x : Int) (C : Int) = (N : Int) := by
        have := HE.out j hj (by rw [HX.out]; omega)
        rw [HX.out] at this
        omega
      clear hj
      go_wp2_with (fail)
      refine (alive_any _).mono ?_
      rintro e w3 ⟨rfl, hb3⟩
      go_wp2
      go_ret
      exact ⟨rfl, H1.out.trans (hb3.mono H1.out.size)⟩

theorem delayTwice_go (s0 s1 k : Int) (w : World) (_ : (Lit.int .i64 s0).wf = true) (_ : (Lit.int .i64 s1).wf = true) (h : (Lit.int .i64 k).wf = true) :
    Calls Try.prog 3 #[.int .i64 s0, .int .i64 s1, .int .i64 k] w fun e w' => e = .returned (.bool true) ∧ Below w.heap.size w w' := by
  have hk : -9223372036854775808 ≤ k ∧ k ≤ 9223372036854775807 := by simpa [Lit.wf, IntKind.min, IntKind.max, IntKind.signed, IntKind.bits] using h
  exact delayTwice_walk s0 s1 k w hk.2
end Go.Proofs.Ytplacjhmdfmocaf
