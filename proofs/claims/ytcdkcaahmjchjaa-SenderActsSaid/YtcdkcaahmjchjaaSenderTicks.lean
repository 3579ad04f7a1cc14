/- The law SenderTicks, walked. -/
import Derived.Test.YtcdkcaahmjchjaaSenderFails
namespace Go.Proofs.Ytcdkcaahmjchjaa
open Go.RowKit
set_option linter.unusedVariables false

/-- behind k ticks -/
def tickAt (base cap T : Int) (F : Nat) (D : Int) (k : Int) : Snd :=
  if k < T then fS base cap T F 1 0 0 1 (T - k) else
    if D - min (k - T) D = 0 then fS base cap T F 1 0 1 0 0 else fS base cap T F 1 0 1 2 (D - min (k - T) D)
theorem tick_fail (base cap T : Int) (F : Nat) (left n : Int) (D : Int) (hD : D = nextD base cap F 0) (h0 : 0 ≤ D) (hl : ¬ n < left) (hn : 0 ≤ n - left) : tickS (fS base cap T F 1 0 0 1 left) n = if D - min (n - left) D = 0 then fS base cap T F 1 0 1 0 0 else fS base cap T F 1 0 1 2 (D - min (n - left) D) := by
  unfold tickS
  rw [if_pos rfl, if_neg hl]
  have hf := failS_fS base cap T F 1 0 left 0 (by omega)
  have hf2 : failS (fS base cap T F 1 0 0 1 left) = restS (fS base cap T F 1 0 1 1 left) D := by rw [hD]; exact hf
  rw [hf2]
  show tickR _ (n - left) = _
  unfold restS tickR
  by_cases hz : D = 0
  · rw [if_pos hz]
    have : min (n - left) D = 0 := by omega
    rw [this, hz]
    simp
  · rw [if_neg hz]
    simp only [if_true]
    unfold restS
    split <;> simp
theorem tickAt_zero (base cap T : Int) (F : Nat) (D : Int) (hT : 1 ≤ T) : tickAt base cap T F D 0 = fS base cap T F 1 0 0 1 T := by
  unfold tickAt
  rw [if_pos (by omega), Int.sub_zero]
theorem tickAt_all (base cap T : Int) (F : Nat) (D : Int) (k : Int) (hD : D = nextD base cap F 0) (h0 : 0 ≤ D) (hT : 1 ≤ T) : tickS (fS base cap T F 1 0 0 1 T) k = tickAt base cap T F D k := by
  unfold tickAt
  by_cases h : k < T
  · rw [if_pos h]
    unfold tickS
    rw [if_pos rfl, if_pos h]
  · rw [if_neg h]
    exact tick_fail base cap T F T k D hD h0 h (by omega)
theorem tickAt_step (base cap T : Int) (F : Nat) (D : Int) (k : Int) (hD : D = nextD base cap F 0) (h0 : 0 ≤ D) (hT : 1 ≤ T) (hk : 0 ≤ k) : tickS (tickAt base cap T F D k) 1 = tickAt base cap T F D (k + 1) := by
  unfold tickAt
  by_cases h : k < T
  · rw [if_pos h]
    by_cases h2 : k + 1 < T
    · rw [if_pos h2]
      unfold tickS
      rw [if_pos rfl, if_pos (by show (1 : Int) < T - k; omega)]
      show fS base cap T F 1 0 0 1 (T - k - 1) = _
      rw [show T - k - 1 = T - (k + 1) from by omega]
    · rw [if_neg h2, tick_fail base cap T F (T - k) 1 D hD h0 (by omega) (by omega)]
      rw [show (1 : Int) - (T - k) = k + 1 - T from by omega]
  · rw [if_neg h, if_neg (show ¬ k + 1 < T by omega)]
    by_cases hz : D - min (k - T) D = 0
    · rw [if_pos hz, if_pos (by omega)]
      simp [tickS, tickR]
    · rw [if_neg hz]
      unfold tickS tickR
      rw [if_neg (by show ¬ (2 : Int) = 1; omega), if_pos rfl]
      show restS _ (D - min (k - T) D - min 1 (D - min (k - T) D)) = _
      rw [show D - min (k - T) D - min 1 (D - min (k - T) D) = D - min (k + 1 - T) D from by omega]
      unfold restS
      rfl
theorem tickAt_ok (base cap T : Int) (F : Nat) (D k : Int) (hb : 0 ≤ base ∧ base ≤ 1099511627776) (hc : 0 ≤ cap ∧ cap ≤ 1099511627776) : (tickAt base cap T F D k).Ok := by
  unfold tickAt
  split
  · exact ⟨hb, hc, by show (0 : Int) ≤ 0; omega, by show (0 : Int) ≤ _; omega⟩
  · split <;> exact ⟨hb, hc, by show (0 : Int) ≤ 1; omega, by show (1 : Int) ≤ _; omega⟩
theorem tickAt_left (base cap T : Int) (F : Nat) (D k : Int) (h0 : 0 ≤ D) (hD : D ≤ 1099511627776) (hT : 1 ≤ T) (hT2 : T ≤ 1099511627776) (hk : 0 ≤ k) : (tickAt base cap T F D k).Left_ := by
  unfold tickAt
  split
  · refine ⟨?_, ?_⟩
    · show 0 ≤ T - k; omega
    · show T - k ≤ _; omega
  · split
    · exact ⟨by show (0 : Int) ≤ 0; omega, by show (0 : Int) ≤ _; omega⟩
    · refine ⟨?_, ?_⟩
      · show 0 ≤ D - min (k - T) D; omega
      · show D - min (k - T) D ≤ _; omega

set_option maxRecDepth 100000 in
set_option maxHeartbeats 4000000 in
theorem senderTicks_main (a b c : Int) (bits : Nat) (tk : Nat) (w : World) (htk : tk < 65536) :
    Calls Try.prog 7 #[.agg #[.int .i64 a, .int .i64 b, .int .i64 c], .int .u64 (bits : Int), .int .u16 (tk : Int)] w (True_ w) := by
  obtain ⟨a', ea⟩ : ∃ a', a' = wrap64 ((IntKind.u64.wrap a).tmod 500) := ⟨_, rfl⟩
  obtain ⟨b', eb⟩ : ∃ a', a' = wrap64 ((IntKind.u64.wrap b).tmod 500) := ⟨_, rfl⟩
  obtain ⟨c', ec⟩ : ∃ a', a' = wrap64 ((IntKind.u64.wrap c).tmod 500) := ⟨_, rfl⟩
  have EA := Lib.hid ea
  have EB := Lib.hid eb
  have EC := Lib.hid ec
  clear ea eb ec
  have ra := kOf_range a'
  have rb := kOf_range b'
  have rc := kOf_range c'
  have cc := fun W => configAny a' b' c' bits W
  unfold cfgOf at cc
  generalize kOf a' = ba at *
  generalize kOf b' = ca at *
  obtain ⟨T, hT⟩ : ∃ T, T = 1 + kOf c' := ⟨_, rfl⟩
  rw [← hT] at cc
  have hT1 : 1 ≤ T := by omega
  have hT2 : T ≤ 1048576 := by omega
  have CC := Lib.hid cc
  have hst := fun (A : Addr) (m : Mode) (W : World) => run_store Try.prog W A (.float .f64 bits) m rfl
  clear cc hT rc
  go_enter Try.func7, Try.ntmps7
  go_wp2_with (fail)
  rw [← EA.out, ← EB.out, ← EC.out]
  refine (CC.out _).mono ?_
  rintro e w1 ⟨rfl, hb1⟩
  have hbw : Below w.heap.size w w1 := ((Below.refl _ w).alloc (Nat.le_refl _) _).trans (hb1.mono (by simp))
  have HBW := Lib.hid hbw
  have hz1 := hbw.size
  clear hb1 hbw
  go_wp2_with (fail)
  have hc2 : IsCfg (w1.alloc (.cells #[.int .i64 0, .int .i64 ba, .int .i64 ca, .int .i64 T, .float .f64 bits] 27)) w1.heap.size ba ca T bits := heap_alloc_new w1 _
  have HBW2 := Lib.hid (HBW.out.alloc hz1 (.cells #[.int .i64 0, .int .i64 ba, .int .i64 ca, .int .i64 T, .float .f64 bits] 27))
  generalize w1.alloc (.cells #[.int .i64 0, .int .i64 ba, .int .i64 ca, .int .i64 T, .float .f64 bits] 27) = w2 at *
  have HC2 := Lib.hid hc2
  have hgc := hc2.lt
  clear hc2
  refine (senderNew 0 ba ca T bits 0 w2 (by omega) (by omega) (by omega) (by omega) (by omega) (by omega) (by omega) (by omega)).mono ?_
  rintro e w3 ⟨g, rfl, hs3, hg3, hb3⟩
  have H3 : Hid (IsSnd w3 g (fS ba ca T bits 0 0 0 0 0)) := Lib.hid hs3
  have B3 := Lib.hid hb3
  have HG := Lib.hid hg3
  have hz3 := hb3.size
  obtain ⟨c0, c1, c2, c3, c4⟩ := (HC2.out.below hb3 hgc).cells
  clear hs3 hb3 hg3
  go_wp2_with (fail)
  refine (senderNew 0 ba ca T bits 0 w3 (by omega) (by omega) (by omega) (by omega) (by omega) (by omega) (by omega) (by omega)).mono ?_
  rintro e w4 ⟨g2, rfl, hs4, hg4, hb4⟩
  have hlt1 := H3.out.lt
  have hne : g ≠ g2 := by omega
  have HG2 : Hid (w2.heap.size ≤ g2) := Lib.hid (by omega)
  have H4 : Hid (IsSnd w4 g (fS ba ca T bits 0 0 0 0 0)) := Lib.hid (H3.out.below hb4 hlt1)
  have T4 : Hid (IsSnd w4 g2 (fS ba ca T bits 0 0 0 0 0)) := Lib.hid hs4
  have B4 := Lib.hid (B3.out.trans (hb4.mono hz3))
  have HNE := Lib.hid hne
  clear hs4 hb4 hg4 c0 c1 c2 c3 c4 hlt1 hne
  go_wp2_with (fail)
  refine (senderAlive w4).mono ?_
  rintro e w5 ⟨rfl, hb5⟩
  have H5 := Lib.hid (H4.out.below hb5 H4.out.lt)
  have T5 := Lib.hid (T4.out.below hb5 T4.out.lt)
  have B5 := Lib.hid (B4.out.trans (hb5.mono B4.out.size))
  clear hb5
  go_wp2_with (fail)
  refine (senderOffer w5 g _ 1 H5.out).mono ?_
  rw [if_neg (by show ¬ ((1 : Int) < 0 ∨ (1099511627776 : Int) < 1); omega), if_neg (by show ¬ ((1 : Int) < 0 ∨ (1099511627776 : Int) < 1); omega)]
  rintro e w6 ⟨rfl, hs6, hg6⟩
  have H6 : Hid (IsSnd w6 g (fS ba ca T bits 1 0 0 0 0)) := Lib.hid hs6
  have T6 := Lib.hid (T5.out.other hg6 HNE.out.symm)
  have B6 := Lib.hid (grown_to_below B5.out HG.out hg6)
  clear hs6 hg6
  go_wp2_with (fail)
  refine (senderOffer w6 g2 _ 1 T6.out).mono ?_
  rw [if_neg (by show ¬ ((1 : Int) < 0 ∨ (1099511627776 : Int) < 1); omega), if_neg (by show ¬ ((1 : Int) < 0 ∨ (1099511627776 : Int) < 1); omega)]
  rintro e w7 ⟨rfl, hs7, hg7⟩
  have T7 : Hid (IsSnd w7 g2 (fS ba ca T bits 1 0 0 0 0)) := Lib.hid hs7
  have H7 := Lib.hid (H6.out.other hg7 HNE.out)
  have B7 := Lib.hid (grown_to_below B6.out HG2.out hg7)
  clear hs7 hg7
  go_wp2_with (fail)
  refine (senderPoll_yes w7 g _ H7.out rfl rfl (by show (0 : Int) < 1; omega)).mono ?_
  rintro e w8 ⟨rfl, hs8, hg8⟩
  have H8 : Hid (IsSnd w8 g (fS ba ca T bits 1 0 0 1 T)) := Lib.hid hs8
  have T8 := Lib.hid (T7.out.other hg8 HNE.out.symm)
  have B8 := Lib.hid (grown_to_below B7.out HG.out hg8)
  clear hs8 hg8
  go_wp2_with (fail)
  refine (senderPoll_yes w8 g2 _ T8.out rfl rfl (by show (0 : Int) < 1; omega)).mono ?_
  rintro e w9 ⟨rfl, hs9, hg9⟩
  have T9 : Hid (IsSnd w9 g2 (fS ba ca T bits 1 0 0 1 T)) := Lib.hid hs9
  have H9 := Lib.hid (H8.out.other hg9 HNE.out)
  have B9 := Lib.hid (grown_to_below B8.out HG2.out hg9)
  clear hs9 hg9
  obtain ⟨k, hk⟩ : ∃ k : Nat, k = tk % 2000 := ⟨_, rfl⟩
  have ek : (tk : Int) % 2000 = (k : Int) := by omega
  have hk2 : k < 2000 := by omega
  obtain ⟨D, hD⟩ : ∃ D, D = nextD ba ca bits 0 := ⟨_, rfl⟩
  have hDb := nextD_bounds ba ca bits 0 (by omega) (by omega)
  rw [← hD] at hDb
  have HOK := Lib.hid (fun j : Int => tickAt_ok ba ca T bits D j (by omega) (by omega))
  have HLE := Lib.hid (fun (j : Int) (hj : 0 ≤ j) => tickAt_left ba ca T bits D j hDb.1 (by omega) hT1 (by omega) hj)
  have HST := Lib.hid (fun (j : Int) (hj : 0 ≤ j) => tickAt_step ba ca T bits D j hD hDb.1 hT1 hj)
  have HAL := Lib.hid (tickAt_all ba ca T bits D k hD hDb.1 hT1)
  have HZ := Lib.hid (tickAt_zero ba ca T bits D hT1)
  clear hD hk
  go_wp2_with (fail)
  refine (senderTick w9 g _ (k : Int) H9.out (by omega) (by omega) (by rw [← HZ.out]; exact HLE.out 0 (by omega)) (by rw [← HZ.out]; exact HOK.out 0)).mono ?_
  rw [HAL.out]
  rintro e w10 ⟨rfl, hs10, hg10⟩
  have H10 := Lib.hid hs10
  have T10 := Lib.hid (T9.out.other hg10 HNE.out.symm)
  rw [← HZ.out] at T10
  have B10 := Lib.hid (grown_to_below B9.out HG.out hg10)
  clear hs10 hg10
  go_wp2_with (fail)
  go_loopw [75] (fun i wr => ∃ j : Nat, j ≤ k ∧ i = .int .i64 j ∧ IsSnd wr g2 (tickAt ba ca T bits D j) ∧ IsSnd wr g (tickAt ba ca T bits D k) ∧ Below w2.heap.size w2 wr) (fun i _ => k - (intOf i).toNat)
  case atStart => exact ⟨0, Nat.zero_le _, rfl, T10.out, H10.out, B10.out⟩
  case round =>
    obtain ⟨j, hj, rfl, ht, hs, hb⟩ := hrel
    have TJ := Lib.hid ht
    have HJ := Lib.hid hs
    have BJ := Lib.hid hb
    clear ht hs hb
    by_cases hlt : j < k
    · go_wp2_with (fail)
      refine (senderTick wr g2 _ 1 TJ.out (by omega) (by omega) (HLE.out _ (by omega)) (HOK.out _)).mono ?_
      rw [HST.out (j : Int) (by omega)]
      rintro e w11 ⟨rfl, hs11, hg11⟩
      have T11 := Lib.hid hs11
      have H11 := Lib.hid (HJ.out.other hg11 HNE.out)
      have B11 := Lib.hid (grown_to_below BJ.out HG2.out hg11)
      clear hs11 hg11
      go_wp2_with (fail)
      go_roundw
      case rel => exact ⟨j + 1, by omega, by go_num, by rw [show (((j + 1 : Nat) : Int)) = (j : Int) + 1 from by omega]; exact T11.out, H11.out, B11.out⟩
      case measure => simp [intOf]; omega
    · obtain rfl : j = k := by omega
      generalize tickAt ba ca T bits D j = F at *
      go_wp2_with (fail)
      refine (senderAt wr g _ HJ.out).mono ?_
      rintro e w' ⟨rfl, rfl⟩
      go_wp2_with (fail)
      refine (senderAt wr g2 _ TJ.out).mono ?_
      rintro e w' ⟨rfl, rfl⟩
      go_wp2_with (fail)
      refine (senderFlying wr g _ HJ.out).mono ?_
      rintro e w' ⟨rfl, rfl⟩
      go_wp2_with (fail)
      refine (senderFlying wr g2 _ TJ.out).mono ?_
      rintro e w' ⟨rfl, rfl⟩
      go_wp2_with (fail)
      refine (senderLeft wr g _ HJ.out).mono ?_
      rintro e w' ⟨rfl, rfl⟩
      go_wp2_with (fail)
      refine (senderLeft wr g2 _ TJ.out).mono ?_
      rintro e w' ⟨rfl, rfl⟩
      go_wp2_with (fail)
      refine (senderTries wr g _ HJ.out).mono ?_
      rintro e w' ⟨rfl, rfl⟩
      go_wp2_with (fail)
      refine (senderTries wr g2 _ TJ.out).mono ?_
      rintro e w' ⟨rfl, rfl⟩
      go_wp2
      go_ret
      exact ⟨rfl, HBW2.out.trans (BJ.out.mono HBW2.out.size)⟩

theorem senderTicks_walk (a b c bits tk : Int) (w : World) (hbits : (Lit.int .u64 bits).wf = true) (htk : (Lit.int .u16 tk).wf = true) :
    Calls Try.prog 7 #[.agg #[.int .i64 a, .int .i64 b, .int .i64 c], .int .u64 bits, .int .u16 tk] w (True_ w) := by
  have hx : 0 ≤ bits := by
    have : 0 ≤ bits ∧ bits ≤ 18446744073709551615 := by simpa [Lit.wf, IntKind.min, IntKind.max, IntKind.signed, IntKind.bits] using hbits
    exact this.1
  have hy : 0 ≤ tk ∧ tk ≤ 65535 := by simpa [Lit.wf, IntKind.min, IntKind.max, IntKind.signed, IntKind.bits] using htk
  obtain ⟨B, rfl⟩ := Int.eq_ofNat_of_zero_le hx
  obtain ⟨t, rfl⟩ := Int.eq_ofNat_of_zero_le hy.1
  exact senderTicks_main a b c B t w (by omega)
end Go.Proofs.Ytcdkcaahmjchjaa
