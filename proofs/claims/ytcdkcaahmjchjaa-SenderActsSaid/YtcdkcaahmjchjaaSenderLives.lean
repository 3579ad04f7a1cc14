/- The law SenderLives, walked. -/
import Derived.Test.YtcdkcaahmjchjaaSenderTicks
namespace Go.Proofs.Ytcdkcaahmjchjaa
open Go.RowKit
set_option linter.unusedVariables false

theorem tick_idle (base cap T : Int) (F : Nat) (known pos tries : Int) (n : Int) : tickS (fS base cap T F known pos tries 0 0) n = fS base cap T F known pos tries 0 0 := by
  simp [tickS, tickR]
theorem okS (ba ca T : Int) (bits : Nat) (known pos tries kind left : Int) (ra : 0 ≤ ba ∧ ba ≤ 1048575) (rb : 0 ≤ ca ∧ ca ≤ 1048575) (ht : 0 ≤ tries ∧ tries ≤ 1000000) : (fS ba ca T bits known pos tries kind left).Ok :=
  ⟨⟨by show 0 ≤ ba; omega, by show ba ≤ _; omega⟩, ⟨by show 0 ≤ ca; omega, by show ca ≤ _; omega⟩, by show (0 : Int) ≤ tries; omega, by show tries ≤ _; omega⟩
theorem okR (ba ca T : Int) (bits : Nat) (known pos tries kind left D : Int) (ra : 0 ≤ ba ∧ ba ≤ 1048575) (rb : 0 ≤ ca ∧ ca ≤ 1048575) (ht : 0 ≤ tries ∧ tries ≤ 1000000) : (restS (fS ba ca T bits known pos tries kind left) D).Ok := by
  unfold restS
  split <;> exact okS ba ca T bits known pos tries _ _ ra rb ht

set_option maxRecDepth 100000 in
set_option maxHeartbeats 4000000 in
theorem senderLives_none (a b c : Int) (bits : Nat) (fa re : Nat) (w : World) (hfa : fa < 256) (hre : re < 256) (h0 : re % 40 = 0) :
    Calls Try.prog 6 #[.agg #[.int .i64 a, .int .i64 b, .int .i64 c], .int .u64 (bits : Int), .agg #[.int .u8 (fa : Int), .int .u8 (re : Int)]] w (True_ w) := by
  have ra := kOf_range a
  have rb := kOf_range b
  have rc := kOf_range c
  have cc := fun W => configAny a b c bits W
  unfold cfgOf at cc
  generalize kOf a = ba at *
  generalize kOf b = ca at *
  obtain ⟨T, hT⟩ : ∃ T, T = 1 + kOf c := ⟨_, rfl⟩
  rw [← hT] at cc
  have hT1 : 1 ≤ T := by omega
  have hT2 : T ≤ 1048576 := by omega
  have CC := Lib.hid cc
  have hst := fun (A : Addr) (m : Mode) (W : World) => run_store Try.prog W A (.float .f64 bits) m rfl
  obtain ⟨f, hf⟩ : ∃ f : Nat, f = fa % 30 := ⟨_, rfl⟩
  obtain ⟨k, hk⟩ : ∃ k : Nat, k = re % 40 := ⟨_, rfl⟩
  have ef : (fa : Int) % 30 = (f : Int) := by omega
  have ek : (re : Int) % 40 = (k : Int) := by omega
  have hf2 : f < 30 := by omega
  have hk2 : k < 40 := by omega
  have hkz : k = 0 := by omega
  have hkd : decide ((0 : Int) < (k : Int)) = false := by simp; omega
  have hkn : ¬ (0 : Int) < (k : Int) := by omega
  have HKZ := Lib.hid hkz
  clear cc hT rc hf hk hkz h0
  go_enter Try.func6, Try.ntmps6
  go_wp2_with (fail)
  go_quiet (fail)
  go_wp2_with (fail)
  refine (CC.out _).mono ?_
  rintro e w1 ⟨rfl, hb1⟩
  have hbw : Below w.heap.size w w1 := (drawN_below (((Below.refl _ w).alloc (Nat.le_refl _) _).alloc (by simp) _) nq).trans (hb1.mono (by simp; omega))
  have HBW := Lib.hid hbw
  have hz1 := hbw.size
  clear hb1 hbw
  go_wp2_with (fail)
  have hc2 : IsCfg (w1.alloc (.cells #[.int .i64 0, .int .i64 ba, .int .i64 ca, .int .i64 T, .float .f64 bits] 27)) w1.heap.size ba ca T bits := heap_alloc_new w1 _
  have HBW2 := Lib.hid (HBW.out.alloc hz1 (.cells #[.int .i64 0, .int .i64 ba, .int .i64 ca, .int .i64 T, .float .f64 bits] 27))
  generalize w1.alloc (.cells #[.int .i64 0, .int .i64 ba, .int .i64 ca, .int .i64 T, .float .f64 bits] 27) = w2 at *
  have HC2 := Lib.hid hc2
  have hgc := hc2.lt
  clear hc2
  refine (senderNew 0 ba ca T bits 0 w2 (by omega) (by omega) (by omega) (by omega) (by omega) (by omega) (by omega) (by omega)).mono ?_
  rintro e w3 ⟨g, rfl, hs3, hg3, hb3⟩
  have H3 : Hid (IsSnd w3 g (fS ba ca T bits 0 0 0 0 0)) := Lib.hid hs3
  have B3 := Lib.hid hb3
  have HG := Lib.hid hg3
  clear hs3 hb3 hg3
  go_wp2_with (fail)
  refine (senderAlive w3).mono ?_
  rintro e w4 ⟨rfl, hb4⟩
  have H4 := Lib.hid (H3.out.below hb4 H3.out.lt)
  have B4 := Lib.hid (B3.out.trans (hb4.mono B3.out.size))
  clear hb4
  go_wp2_with (fail)
  refine (senderOffer w4 g _ (k : Int) H4.out).mono ?_
  rw [if_neg (by show ¬ ((k : Int) < 0 ∨ (1099511627776 : Int) < k); omega), if_neg (by show ¬ ((k : Int) < 0 ∨ (1099511627776 : Int) < k); omega)]
  rintro e w5 ⟨rfl, hs5, hg5⟩
  have H5 : Hid (IsSnd w5 g (fS ba ca T bits k 0 0 0 0)) := Lib.hid hs5
  have B5 := Lib.hid (grown_to_below B4.out HG.out hg5)
  clear hs5 hg5
  go_wp2_with (fail)
  rw [ef]
  go_loopw [55] (fun i wr => ∃ j : Nat, j ≤ f ∧ i = .int .i64 j ∧ IsSnd wr g (fS ba ca T bits k 0 0 0 0) ∧ Below w2.heap.size w2 wr) (fun i _ => f - (intOf i).toNat)
  case atStart => exact ⟨0, Nat.zero_le _, rfl, H5.out, B5.out⟩
  case round =>
    obtain ⟨j, hj, rfl, hs, hb⟩ := hrel
    have H6 := Lib.hid hs
    have B6 := Lib.hid hb
    clear hs hb
    by_cases hlt : j < f
    · go_wp2_with (fail)
      refine (senderPoll_no wr g _ H6.out (.inr (.inr (by show (k : Int) ≤ 0; have := HKZ.out; omega)))).mono ?_
      rintro e w7 ⟨rfl, hs7, hg7⟩
      have H7 := Lib.hid hs7
      have B7 := Lib.hid (grown_to_below B6.out HG.out hg7)
      clear hs7 hg7
      go_wp2_with (fail)
      refine (senderDrop w7 g _ H7.out (okS _ _ _ _ _ _ _ _ _ ra rb (by omega))).mono ?_
      rw [if_neg (by show ¬ (0 : Int) = 1; omega)]
      rintro e w8 ⟨rfl, hs8, hg8⟩
      have H8 := Lib.hid hs8
      have B8 := Lib.hid (grown_to_below B7.out HG.out hg8)
      obtain ⟨c0, c1, c2, c3, c4⟩ := (HC2.out.below B8.out hgc).cells
      clear hs8 hg8
      go_wp2_with (fail)
      refine (delayNext_yes 0 ba ca T (j : Int) bits w8 (by omega) (by omega) (by omega) (by omega) (by omega) (by omega)).mono ?_
      rw [Int.toNat_natCast]
      have hDb := nextD_bounds ba ca bits j (by omega) (by omega)
      generalize nextD ba ca bits j = D at *
      rintro e w9 ⟨rfl, hb9⟩
      have H9 := Lib.hid (H8.out.below hb9 H8.out.lt)
      have B9 := Lib.hid (B8.out.trans (hb9.mono B8.out.size))
      clear hb9 c0 c1 c2 c3 c4
      go_wp2_with (fail)
      refine (senderTick w9 g _ D H9.out (by omega) (by omega) ⟨by show (0 : Int) ≤ 0; omega, by show (0 : Int) ≤ _; omega⟩ (okS _ _ _ _ _ _ _ _ _ ra rb (by omega))).mono ?_
      rw [tick_idle]
      rintro e w10 ⟨rfl, hs10, hg10⟩
      have H10 := Lib.hid hs10
      have B10 := Lib.hid (grown_to_below B9.out HG.out hg10)
      clear hs10 hg10
      go_wp2_with (fail)
      go_roundw
      case rel => exact ⟨j + 1, by omega, by go_num, H10.out, B10.out⟩
      case measure => simp [intOf]; omega
    · go_wp2_with (fail)
      go_loopw [97] (fun i wr2 => i = .int .i64 0 ∧ wr2 = wr) (fun i _ => 0)
      case atStart => exact ⟨rfl, rfl⟩
      case round =>
        obtain ⟨rfl, rfl⟩ := hrel
        go_wp2_with (fail)
        refine (senderPoll_no _ g _ H6.out (.inr (.inr (by show (k : Int) ≤ 0; have := HKZ.out; omega)))).mono ?_
        rintro e w7 ⟨rfl, hs7, hg7⟩
        have H7 := Lib.hid hs7
        have B7 := Lib.hid (grown_to_below B6.out HG.out hg7)
        clear hs7 hg7
        go_wp2_with (fail)
        refine (senderAt w7 g _ H7.out).mono ?_
        rintro e w8 ⟨rfl, rfl⟩
        have hfin : ((0 : Int) == (k : Int)) = true := by rw [beq_iff_eq]; have := HKZ.out; omega
        go_wp2
        go_ret
        exact ⟨rfl, HBW2.out.trans (B7.out.mono HBW2.out.size)⟩

set_option maxRecDepth 100000 in
set_option maxHeartbeats 4000000 in
theorem senderLives_some (a b c : Int) (bits : Nat) (fa re : Nat) (w : World) (hfa : fa < 256) (hre : re < 256) (h0 : 0 < re % 40) :
    Calls Try.prog 6 #[.agg #[.int .i64 a, .int .i64 b, .int .i64 c], .int .u64 (bits : Int), .agg #[.int .u8 (fa : Int), .int .u8 (re : Int)]] w (True_ w) := by
  have ra := kOf_range a
  have rb := kOf_range b
  have rc := kOf_range c
  have cc := fun W => configAny a b c bits W
  unfold cfgOf at cc
  generalize kOf a = ba at *
  generalize kOf b = ca at *
  obtain ⟨T, hT⟩ : ∃ T, T = 1 + kOf c := ⟨_, rfl⟩
  rw [← hT] at cc
  have hT1 : 1 ≤ T := by omega
  have hT2 : T ≤ 1048576 := by omega
  have CC := Lib.hid cc
  have hst := fun (A : Addr) (m : Mode) (W : World) => run_store Try.prog W A (.float .f64 bits) m rfl
  obtain ⟨f, hf⟩ : ∃ f : Nat, f = fa % 30 := ⟨_, rfl⟩
  obtain ⟨k, hk⟩ : ∃ k : Nat, k = re % 40 := ⟨_, rfl⟩
  have ef : (fa : Int) % 30 = (f : Int) := by omega
  have ek : (re : Int) % 40 = (k : Int) := by omega
  have hf2 : f < 30 := by omega
  have hk2 : k < 40 := by omega
  have hkz : 0 < k := by omega
  have hkd : decide ((0 : Int) < (k : Int)) = true := by simp; omega
  clear cc hT rc hf hk h0
  go_enter Try.func6, Try.ntmps6
  go_wp2_with (fail)
  go_quiet (fail)
  go_wp2_with (fail)
  refine (CC.out _).mono ?_
  rintro e w1 ⟨rfl, hb1⟩
  have hbw : Below w.heap.size w w1 := (drawN_below (((Below.refl _ w).alloc (Nat.le_refl _) _).alloc (by simp) _) nq).trans (hb1.mono (by simp; omega))
  have HBW := Lib.hid hbw
  have hz1 := hbw.size
  clear hb1 hbw
  go_wp2_with (fail)
  have hc2 : IsCfg (w1.alloc (.cells #[.int .i64 0, .int .i64 ba, .int .i64 ca, .int .i64 T, .float .f64 bits] 27)) w1.heap.size ba ca T bits := heap_alloc_new w1 _
  have HBW2 := Lib.hid (HBW.out.alloc hz1 (.cells #[.int .i64 0, .int .i64 ba, .int .i64 ca, .int .i64 T, .float .f64 bits] 27))
  generalize w1.alloc (.cells #[.int .i64 0, .int .i64 ba, .int .i64 ca, .int .i64 T, .float .f64 bits] 27) = w2 at *
  have HC2 := Lib.hid hc2
  have hgc := hc2.lt
  clear hc2
  refine (senderNew 0 ba ca T bits 0 w2 (by omega) (by omega) (by omega) (by omega) (by omega) (by omega) (by omega) (by omega)).mono ?_
  rintro e w3 ⟨g, rfl, hs3, hg3, hb3⟩
  have H3 : Hid (IsSnd w3 g (fS ba ca T bits 0 0 0 0 0)) := Lib.hid hs3
  have B3 := Lib.hid hb3
  have HG := Lib.hid hg3
  clear hs3 hb3 hg3
  go_wp2_with (fail)
  refine (senderAlive w3).mono ?_
  rintro e w4 ⟨rfl, hb4⟩
  have H4 := Lib.hid (H3.out.below hb4 H3.out.lt)
  have B4 := Lib.hid (B3.out.trans (hb4.mono B3.out.size))
  clear hb4
  go_wp2_with (fail)
  refine (senderOffer w4 g _ (k : Int) H4.out).mono ?_
  rw [if_neg (by show ¬ ((k : Int) < 0 ∨ (1099511627776 : Int) < k); omega), if_neg (by show ¬ ((k : Int) < 0 ∨ (1099511627776 : Int) < k); omega)]
  rintro e w5 ⟨rfl, hs5, hg5⟩
  have H5 : Hid (IsSnd w5 g (fS ba ca T bits k 0 0 0 0)) := Lib.hid hs5
  have B5 := Lib.hid (grown_to_below B4.out HG.out hg5)
  clear hs5 hg5
  go_wp2_with (fail)
  rw [ef]
  go_loopw [55] (fun i wr => ∃ j : Nat, j ≤ f ∧ i = .int .i64 j ∧ IsSnd wr g (fS ba ca T bits k 0 j 0 0) ∧ Below w2.heap.size w2 wr) (fun i _ => f - (intOf i).toNat)
  case atStart => exact ⟨0, Nat.zero_le _, rfl, H5.out, B5.out⟩
  case round =>
    obtain ⟨j, hj, rfl, hs, hb⟩ := hrel
    have H6 := Lib.hid hs
    have B6 := Lib.hid hb
    clear hs hb
    by_cases hlt : j < f
    · go_wp2_with (fail)
      refine (senderPoll_yes wr g _ H6.out rfl rfl (by show (0 : Int) < k; omega)).mono ?_
      rintro e w7 ⟨rfl, hs7, hg7⟩
      have H7 : Hid (IsSnd w7 g (fS ba ca T bits k 0 j 1 T)) := Lib.hid hs7
      have B7 := Lib.hid (grown_to_below B6.out HG.out hg7)
      clear hs7 hg7
      obtain ⟨D, hD⟩ : ∃ D, D = nextD ba ca bits j := ⟨_, rfl⟩
      have hDb := nextD_bounds ba ca bits j (by omega) (by omega)
      have HF : Hid (failS (fS ba ca T bits k 0 j 1 T) = restS (fS ba ca T bits k 0 ((j : Int) + 1) 1 T) D) := by
        show failS _ = _
        rw [hD]
        exact failS_fS _ _ _ _ _ _ _ j (by omega)
      rw [← hD] at hDb
      have HOK2 := Lib.hid (okR ba ca T bits k 0 ((j : Int) + 1) 1 T D ra rb (by omega))
      have HRS := Lib.hid (rest_state ba ca T bits k 0 ((j : Int) + 1) 1 T D)
      have hRO := Lib.hid (rest_over ba ca T bits k 0 ((j : Int) + 1) 1 T D)
      have HDD := Lib.hid hD
      generalize restS (fS ba ca T bits k 0 ((j : Int) + 1) 1 T) D = FS at *
      clear hD
      go_wp2_with (fail)
      refine (senderDrop w7 g _ H7.out (okS _ _ _ _ _ _ _ _ _ ra rb (by omega))).mono ?_
      rw [if_pos (by rfl), HF.out]
      rintro e w8 ⟨rfl, hs8, hg8⟩
      have H8 := Lib.hid hs8
      have B8 := Lib.hid (grown_to_below B7.out HG.out hg8)
      obtain ⟨c0, c1, c2, c3, c4⟩ := (HC2.out.below B8.out hgc).cells
      clear hs8 hg8
      go_wp2_with (fail)
      refine (delayNext_yes 0 ba ca T (j : Int) bits w8 (by omega) (by omega) (by omega) (by omega) (by omega) (by omega)).mono ?_
      rw [Int.toNat_natCast, ← HDD.out]
      rintro e w9 ⟨rfl, hb9⟩
      have H9 := Lib.hid (H8.out.below hb9 H8.out.lt)
      have B9 := Lib.hid (B8.out.trans (hb9.mono B8.out.size))
      clear hb9 c0 c1 c2 c3 c4
      go_wp2_with (fail)
      refine (senderLeft w9 g _ H9.out).mono ?_
      rw [HRS.out.1]
      rintro e w' ⟨rfl, rfl⟩
      go_wp2_with (fail)
      refine (senderTries w9 g _ H9.out).mono ?_
      rw [HRS.out.2.1]
      rintro e w' ⟨rfl, rfl⟩
      go_wp2_with (fail)
      refine (senderTick w9 g _ D H9.out (by omega) (by omega) ⟨by rw [HRS.out.1]; omega, by rw [HRS.out.1]; omega⟩ HOK2.out).mono ?_
      rw [hRO.out]
      rintro e w10 ⟨rfl, hs10, hg10⟩
      have H10 := Lib.hid hs10
      have B10 := Lib.hid (grown_to_below B9.out HG.out hg10)
      clear hs10 hg10
      go_wp2_with (fail)
      go_roundw
      case rel => exact ⟨j + 1, by omega, by go_num, by rw [show (((j + 1 : Nat) : Int)) = (j : Int) + 1 from by omega]; exact H10.out, B10.out⟩
      case measure => simp [intOf]; omega
    · go_wp2_with (fail)
      go_loopw [97] (fun i wr2 => ∃ i' : Nat, i' ≤ k ∧ i = .int .i64 i' ∧ (∃ tr : Nat, tr ≤ 100 ∧ IsSnd wr2 g (fS ba ca T bits k i' tr 0 0)) ∧ Below w2.heap.size w2 wr2) (fun i _ => k - (intOf i).toNat)
      case atStart => exact ⟨0, Nat.zero_le _, rfl, ⟨j, by omega, H6.out⟩, B6.out⟩
      case round =>
        obtain ⟨i', hi', rfl, ⟨tr, htr, hs⟩, hb⟩ := hrel
        rename_i wr2 _ _
        have H7 := Lib.hid hs
        have B7 := Lib.hid hb
        clear hs hb
        by_cases hlt2 : i' < k
        · go_wp2_with (fail)
          refine (senderPoll_yes _ g _ H7.out rfl rfl (by show (i' : Int) < k; omega)).mono ?_
          rintro e w8 ⟨rfl, hs8, hg8⟩
          have H8 : Hid (IsSnd w8 g (fS ba ca T bits k i' tr 1 T)) := Lib.hid hs8
          have B8 := Lib.hid (grown_to_below B7.out HG.out hg8)
          have c3 := (HC2.out.below B8.out hgc).cells.2.2.2.1
          clear hs8 hg8
          go_wp2_with (fail)
          refine (senderTick w8 g _ (T - 1) H8.out (by omega) (by omega) ⟨by show (0 : Int) ≤ T; omega, by show T ≤ _; omega⟩ (okS _ _ _ _ _ _ _ _ _ ra rb (by omega))).mono ?_
          rw [show tickS (fS ba ca T bits k i' tr 1 T) (T - 1) = fS ba ca T bits k i' tr 1 (T - (T - 1)) from by unfold tickS; rw [if_pos rfl, if_pos (by show T - 1 < T; omega)]]
          rintro e w9 ⟨rfl, hs9, hg9⟩
          have H9 := Lib.hid hs9
          have B9 := Lib.hid (grown_to_below B8.out HG.out hg9)
          clear hs9 hg9 c3
          go_wp2_with (fail)
          refine (senderAnswer_yes w9 g _ H9.out (by show 0 ≤ (i' : Int) ∧ (i' : Int) ≤ 1099511627776; omega)).mono ?_
          rintro e w10 ⟨rfl, hs10, hg10⟩
          have H10 : Hid (IsSnd w10 g (fS ba ca T bits k ((i' : Int) + 1) 0 0 0)) := Lib.hid hs10
          have B10 := Lib.hid (grown_to_below B9.out HG.out hg10)
          clear hs10 hg10
          go_wp2_with (fail)
          refine (senderTries w10 g _ H10.out).mono ?_
          rintro e w' ⟨rfl, rfl⟩
          go_wp2_with (fail)
          go_roundw
          case rel => exact ⟨i' + 1, by omega, by go_num, ⟨0, by omega, by rw [show (((i' + 1 : Nat) : Int)) = (i' : Int) + 1 from by omega]; exact H10.out⟩, B10.out⟩
          case measure => simp [intOf]; omega
        · obtain rfl : i' = k := by omega
          go_wp2_with (fail)
          refine (senderPoll_no _ g _ H7.out (.inr (.inr (by show (i' : Int) ≤ i'; omega)))).mono ?_
          rintro e w8 ⟨rfl, hs8, hg8⟩
          have H8 := Lib.hid hs8
          have B8 := Lib.hid (grown_to_below B7.out HG.out hg8)
          clear hs8 hg8
          go_wp2_with (fail)
          refine (senderAt w8 g _ H8.out).mono ?_
          rintro e w' ⟨rfl, rfl⟩
          go_wp2
          go_ret
          exact ⟨rfl, HBW2.out.trans (B8.out.mono HBW2.out.size)⟩

theorem senderLives_walk (a b c bits fa re : Int) (w : World) (hbits : (Lit.int .u64 bits).wf = true) (hfa : (Lit.int .u8 fa).wf = true) (hre : (Lit.int .u8 re).wf = true) :
    Calls Try.prog 6 #[.agg #[.int .i64 a, .int .i64 b, .int .i64 c], .int .u64 bits, .agg #[.int .u8 fa, .int .u8 re]] w (True_ w) := by
  have hx : 0 ≤ bits := by
    have : 0 ≤ bits ∧ bits ≤ 18446744073709551615 := by simpa [Lit.wf, IntKind.min, IntKind.max, IntKind.signed, IntKind.bits] using hbits
    exact this.1
  have hy : 0 ≤ fa ∧ fa ≤ 255 := by simpa [Lit.wf, IntKind.min, IntKind.max, IntKind.signed, IntKind.bits] using hfa
  have hz : 0 ≤ re ∧ re ≤ 255 := by simpa [Lit.wf, IntKind.min, IntKind.max, IntKind.signed, IntKind.bits] using hre
  obtain ⟨B, rfl⟩ := Int.eq_ofNat_of_zero_le hx
  obtain ⟨t, rfl⟩ := Int.eq_ofNat_of_zero_le hy.1
  obtain ⟨r, rfl⟩ := Int.eq_ofNat_of_zero_le hz.1
  by_cases h : r % 40 = 0
  · exact senderLives_none a b c B t r w (by omega) (by omega) h
  · exact senderLives_some a b c B t r w (by omega) (by omega) (by omega)
end Go.Proofs.Ytcdkcaahmjchjaa
