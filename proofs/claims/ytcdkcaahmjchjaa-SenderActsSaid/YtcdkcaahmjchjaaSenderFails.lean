/- The law SenderFails, walked. -/
import Derived.Test.YtcdkcaahmjchjaaSenderConfig
namespace Go.Proofs.Ytcdkcaahmjchjaa
open Go.RowKit

theorem IsSnd.other {w w' : World} {g k : Nat} {s : Snd} (h : IsSnd w g s) (hg : w.grownBy w' (some k)) (hne : g ≠ k) : IsSnd w' g s :=
  (hg.block g h.lt (by simpa using hne)).trans h

/-- a config in memory -/
def IsCfg (w : World) (g : Nat) (base cap timeout : Int) (F : Nat) : Prop := w.heap[g]? = some (.cells #[.int .i64 0, .int .i64 base, .int .i64 cap, .int .i64 timeout, .float .f64 F] 27)
theorem IsCfg.below {w w' : World} {g B : Nat} {base cap timeout : Int} {F : Nat} (h : IsCfg w g base cap timeout F) (hb : Below B w w') (hg : g < B) : IsCfg w' g base cap timeout F := (hb.block g hg).trans h
theorem IsCfg.cells {w : World} {g : Nat} {base cap timeout : Int} {F : Nat} (h : IsCfg w g base cap timeout F) : w.cell? ⟨g, 0, none⟩ = some (.int .i64 0) ∧ w.cell? ⟨g, 1, none⟩ = some (.int .i64 base) ∧ w.cell? ⟨g, 2, none⟩ = some (.int .i64 cap) ∧ w.cell? ⟨g, 3, none⟩ = some (.int .i64 timeout) ∧ w.cell? ⟨g, 4, none⟩ = some (.float .f64 F) :=
  ⟨cell_of_row w g 0 _ _ _ h, cell_of_row w g 1 _ _ _ h, cell_of_row w g 2 _ _ _ h, cell_of_row w g 3 _ _ _ h, cell_of_row w g 4 _ _ _ h⟩
theorem IsCfg.lt {w : World} {g : Nat} {base cap timeout : Int} {F : Nat} (h : IsCfg w g base cap timeout F) : g < w.heap.size := by
  rcases Nat.lt_or_ge g w.heap.size with h' | h'
  · exact h'
  · unfold IsCfg at h
    rw [Array.getElem?_eq_none h'] at h
    cases h

/-- the sender of the laws' config -/
abbrev fS (base cap timeout : Int) (F : Nat) (known pos tries kind left : Int) : Snd := ⟨0, base, cap, timeout, F, pos, known, tries, kind, left⟩
theorem failS_fS (base cap timeout : Int) (F : Nat) (known pos left : Int) (i : Nat) (hi : i ≤ 1000000) : failS (fS base cap timeout F known pos i 1 left) = restS (fS base cap timeout F known pos ((i : Int) + 1) 1 left) (nextD base cap F i) := by
  unfold failS
  simp only [Int.toNat_natCast]
  rw [if_pos (by omega)]
theorem rest_over (base cap timeout : Int) (F : Nat) (known pos tries kind left : Int) (D : Int) : tickS (restS (fS base cap timeout F known pos tries kind left) D) D = fS base cap timeout F known pos tries 0 0 := by
  unfold restS
  split
  · subst_vars
    simp [tickS, tickR]
  · simp [tickS, tickR, restS]
theorem rest_state (base cap timeout : Int) (F : Nat) (known pos tries kind left : Int) (D : Int) : (restS (fS base cap timeout F known pos tries kind left) D).left = D ∧ (restS (fS base cap timeout F known pos tries kind left) D).tries = tries ∧ (restS (fS base cap timeout F known pos tries kind left) D).kind ≠ 1 := by
  unfold restS
  split
  · subst_vars; simp
  · simp
theorem tickR_zero (s : Snd) (h : s.Left_) (hk : s.kind ≠ 1) (hk2 : s.kind = 2 → s.left ≠ 0) : tickR s 0 = s := by
  unfold tickR
  split
  · rename_i h2
    have : min 0 s.left = 0 := by have := h.1; omega
    rw [this, Int.sub_zero]
    unfold restS
    rw [if_neg (hk2 h2)]
    cases s
    simp at h2
    simp [h2]
  · rfl
theorem fail_tick (base cap timeout : Int) (F : Nat) (known pos : Int) (i : Nat) (hi : i ≤ 1000000) (hc : 0 ≤ cap) (hc2 : cap ≤ 1099511627776) : tickS (fS base cap timeout F known pos i 1 timeout) timeout = failS (fS base cap timeout F known pos i 1 timeout) := by
  unfold tickS
  rw [if_pos rfl, if_neg (by show ¬ timeout < timeout; omega)]
  show tickR _ (timeout - timeout) = _
  rw [Int.sub_self]
  have hd := nextD_bounds base cap F i hc hc2
  refine tickR_zero _ ?_ (failS_kind _).1 ?_
  · unfold Snd.Left_
    rw [failS_fS _ _ _ _ _ _ _ i hi, (rest_state _ _ _ _ _ _ _ _ _ _).1]
    omega
  · intro h2 h0
    rw [failS_fS _ _ _ _ _ _ _ i hi] at h2 h0
    unfold restS at h2 h0
    split at h2
    · simp at h2
    · rename_i hne
      rw [if_neg hne] at h0
      exact hne h0

set_option maxRecDepth 100000 in
set_option maxHeartbeats 4000000 in
theorem senderFails_main (a b c : Int) (bits : Nat) (A : Option Addr) (n cp : Nat) (l : List UInt8) (w : World) (hB : Bs w A n cp l) (hn : n ≤ 50) :
    Calls Try.prog 8 #[.agg #[.int .i64 a, .int .i64 b, .int .i64 c], .int .u64 (bits : Int), .slice A n cp] w (True_ w) := by
  have HB := Lib.hid hB
  have ra := kOf_range a
  have rb := kOf_range b
  have rc := kOf_range c
  have cc := fun W => configAny a b c bits W
  unfold cfgOf at cc
  generalize kOf a = ba at *
  generalize kOf b = ca at *
  obtain ⟨T, hT⟩ : ∃ T, T = 1 + kOf c := ⟨_, rfl⟩
  rw [← hT] at cc
  have hT1 : 1 ≤ T := by omega
  have hT2 : T ≤ 1048576 := by omega
  have CC := Lib.hid cc
  have hst := fun (A : Addr) (m : Mode) (W : World) => run_store Try.prog W A (.float .f64 bits) m rfl
  clear hB cc hT rc
  go_enter Try.func8, Try.ntmps8
  go_wp2_with (fail)
  refine (CC.out _).mono ?_
  rintro e w1 ⟨rfl, hb1⟩
  have hbw : Below w.heap.size w w1 := ((Below.refl _ w).alloc (Nat.le_refl _) _).trans (hb1.mono (by simp))
  have HBW := Lib.hid hbw
  have hz1 := hbw.size
  clear hb1 hbw
  go_wp2_with (fail)
  have hc2 : IsCfg (w1.alloc (.cells #[.int .i64 0, .int .i64 ba, .int .i64 ca, .int .i64 T, .float .f64 bits] 27)) w1.heap.size ba ca T bits := heap_alloc_new w1 _
  have HBW2 := Lib.hid (HBW.out.alloc hz1 (.cells #[.int .i64 0, .int .i64 ba, .int .i64 ca, .int .i64 T, .float .f64 bits] 27))
  generalize w1.alloc (.cells #[.int .i64 0, .int .i64 ba, .int .i64 ca, .int .i64 T, .float .f64 bits] 27) = w2 at *
  have HC2 := Lib.hid hc2
  have hgc := hc2.lt
  have HX2 := Lib.hid (HB.out.below HBW2.out)
  clear hc2
  refine (senderNew 0 ba ca T bits 0 w2 (by omega) (by omega) (by omega) (by omega) (by omega) (by omega) (by omega) (by omega)).mono ?_
  rintro e w3 ⟨g, rfl, hs3, hg3, hb3⟩
  have H3 : Hid (IsSnd w3 g (fS ba ca T bits 0 0 0 0 0)) := Lib.hid hs3
  have B3 := Lib.hid hb3
  have HG := Lib.hid hg3
  clear hs3 hb3 hg3
  go_wp2_with (fail)
  refine (senderAlive w3).mono ?_
  rintro e w4 ⟨rfl, hb4⟩
  have H4 := Lib.hid (H3.out.below hb4 H3.out.lt)
  have B4 := Lib.hid (B3.out.trans (hb4.mono B3.out.size))
  clear hb4
  go_wp2_with (fail)
  refine (senderOffer w4 g _ 1 H4.out).mono ?_
  rw [if_neg (by show ¬ ((1 : Int) < 0 ∨ (1099511627776 : Int) < 1); omega), if_neg (by show ¬ ((1 : Int) < 0 ∨ (1099511627776 : Int) < 1); omega)]
  rintro e w5 ⟨rfl, hs5, hg5⟩
  have H5 : Hid (IsSnd w5 g (fS ba ca T bits 1 0 0 0 0)) := Lib.hid hs5
  have B5 := Lib.hid (grown_to_below B4.out HG.out hg5)
  clear hs5 hg5
  go_wp2_with (fail)
  go_loopw [44] (fun i wr => ∃ j : Nat, j ≤ n ∧ i = .int .i64 j ∧ IsSnd wr g (fS ba ca T bits 1 0 j 0 0) ∧ Below w2.heap.size w2 wr) (fun i _ => n - (intOf i).toNat)
  case atStart => exact ⟨0, Nat.zero_le _, rfl, H5.out, B5.out⟩
  case round =>
    obtain ⟨j, hj, rfl, hs, hb⟩ := hrel
    have H6 := Lib.hid hs
    have B6 := Lib.hid hb
    clear hs hb
    by_cases hlt : j < n
    · obtain ⟨bb, oo, rfl, _, hcx⟩ := (HX2.out.below B6.out).at_ (by omega)
      have hjl : j < l.length := by have := HX2.out.len; omega
      have hcell := hcx j _ (List.getElem?_eq_getElem hjl)
      generalize l[j] = x at *
      clear hcx
      go_wp2_with (fail)
      refine (senderPoll_yes wr g _ H6.out rfl rfl (by show (0 : Int) < 1; omega)).mono ?_
      rintro e w7 ⟨rfl, hs7, hg7⟩
      have H7 : Hid (IsSnd w7 g (fS ba ca T bits 1 0 j 1 T)) := Lib.hid hs7
      have B7 := Lib.hid (grown_to_below B6.out HG.out hg7)
      clear hs7 hg7
      have hcz := (HC2.out.below B7.out hgc).cells
      have z3 := hcz.2.2.2.1
      have H7q : Hid (∀ q, IsSnd (w7.drewN q) g (fS ba ca T bits 1 0 j 1 T)) := fun q => H7.out
      have HJ : j ≤ 50 := by omega
      obtain ⟨D, hD⟩ : ∃ D, D = nextD ba ca bits j := ⟨_, rfl⟩
      have hDb := nextD_bounds ba ca bits j (by omega) (by omega)
      have HF : Hid (failS (fS ba ca T bits 1 0 j 1 T) = restS (fS ba ca T bits 1 0 ((j : Int) + 1) 1 T) D) := by
        show failS _ = _
        rw [hD]
        exact failS_fS _ _ _ _ _ _ _ j (by omega)
      have HFT : Hid (tickS (fS ba ca T bits 1 0 j 1 T) T = failS (fS ba ca T bits 1 0 j 1 T)) := fail_tick _ _ _ _ _ _ j (by omega) (by omega) (by omega)
      have hok : (fS ba ca T bits 1 0 j 1 T).Ok := ⟨⟨by show 0 ≤ ba; omega, by show ba ≤ _; omega⟩, ⟨by show 0 ≤ ca; omega, by show ca ≤ _; omega⟩, by show (0 : Int) ≤ j; omega, by show (j : Int) ≤ _; omega⟩
      have hok2 : (restS (fS ba ca T bits 1 0 ((j : Int) + 1) 1 T) D).Ok := by
        unfold restS
        split <;> exact ⟨⟨by show 0 ≤ ba; omega, by show ba ≤ _; omega⟩, ⟨by show 0 ≤ ca; omega, by show ca ≤ _; omega⟩, by show (0 : Int) ≤ (j : Int) + 1; omega, by show (j : Int) + 1 ≤ _; omega⟩
      rw [← hD] at hDb
      have HOK := Lib.hid hok
      have HOK2 := Lib.hid hok2
      have hRS := rest_state ba ca T bits 1 0 ((j : Int) + 1) 1 T D
      have HRS := Lib.hid hRS
      have hRO := Lib.hid (rest_over ba ca T bits 1 0 ((j : Int) + 1) 1 T D)
      have HDD := Lib.hid hD
      generalize restS (fS ba ca T bits 1 0 ((j : Int) + 1) 1 T) D = FS at *
      clear hok hok2 hD hcz hRS
      go_wp2_with (fail)
      go_quiet ((go_at_call 30; go_loud (exact Calls.quiet_sym (senderLeft _ g _ (H7q.out _)))))
      have H8 : Hid (IsSnd (w7.drewN nq) g (fS ba ca T bits 1 0 j 1 T)) := H7.out
      have B8 : Hid (Below w2.heap.size w2 (w7.drewN nq)) := Lib.hid (drawN_below B7.out nq)
      clear z3
      generalize w7.drewN nq = w8 at *
      have y3 := (HC2.out.below B8.out hgc).cells.2.2.2.1
      have hx3 : x.toNat % 3 = 0 ∨ x.toNat % 3 = 1 ∨ x.toNat % 3 = 2 := by omega
      have HB8 := B8.out.size
      rcases hx3 with h3 | h3 | h3
      · have e1 : (((x.toNat : Int) % 3) == 0) = true := by rw [beq_iff_eq]; omega
        go_wp2_with (fail)
        refine (senderAnswer_no w8 g _ H8.out HOK.out).mono ?_
        rw [show answerS (fS ba ca T bits 1 0 j 1 T) false = failS (fS ba ca T bits 1 0 j 1 T) from by unfold answerS; rw [if_pos rfl, if_neg (by decide)], HF.out]
        rintro e w9 ⟨rfl, hs9, hg9⟩
        have H9 := Lib.hid hs9
        have B9 := Lib.hid (grown_to_below B8.out HG.out hg9)
        clear hs9 hg9 y3
        obtain ⟨c0, c1, c2, c3, c4⟩ := (HC2.out.below B9.out hgc).cells
        go_wp2_with (fail)
        refine (delayNext_yes 0 ba ca T (j : Int) bits w9 (by omega) (by omega) (by omega) (by omega) (by omega) (by omega)).mono ?_
        rw [Int.toNat_natCast, ← HDD.out]
        rintro e w10 ⟨rfl, hb10⟩
        have H10 := Lib.hid (H9.out.below hb10 H9.out.lt)
        have B10 := Lib.hid (B9.out.trans (hb10.mono B9.out.size))
        have k1 : (FS.kind == 1) = false := by simpa using HRS.out.2.2
        clear hb10 c0 c1 c2 c3 c4
        go_wp2_with (fail)
        refine (senderFlying w10 g _ H10.out).mono ?_
        rw [k1]
        rintro e w' ⟨rfl, rfl⟩
        go_wp2_with (fail)
        refine (senderLeft w10 g _ H10.out).mono ?_
        rw [HRS.out.1]
        rintro e w' ⟨rfl, rfl⟩
        go_wp2_with (fail)
        refine (senderTries w10 g _ H10.out).mono ?_
        rw [HRS.out.2.1]
        rintro e w' ⟨rfl, rfl⟩
        go_wp2_with (fail)
        refine (senderTick w10 g _ D H10.out (by omega) (by omega) ⟨by rw [HRS.out.1]; omega, by rw [HRS.out.1]; omega⟩ HOK2.out).mono ?_
        rw [hRO.out]
        rintro e w11 ⟨rfl, hs11, hg11⟩
        have H11 := Lib.hid hs11
        have B11 := Lib.hid (grown_to_below B10.out HG.out hg11)
        clear hs11 hg11
        go_wp2_with (fail)
        go_roundw
        case rel => exact ⟨j + 1, by omega, by go_num, by rw [show (((j + 1 : Nat) : Int)) = (j : Int) + 1 from by omega]; exact H11.out, B11.out⟩
        case measure => simp [intOf]; omega
      · have e1 : (((x.toNat : Int) % 3) == 0) = false := by rw [beq_eq_false_iff_ne]; omega
        have e2 : (((x.toNat : Int) % 3) == 1) = true := by rw [beq_iff_eq]; omega
        go_wp2_with (fail)
        refine (senderTick w8 g _ T H8.out (by omega) (by omega) ⟨by show 0 ≤ T; omega, by show T ≤ _; omega⟩ HOK.out).mono ?_
        rw [HFT.out, HF.out]
        rintro e w9 ⟨rfl, hs9, hg9⟩
        have H9 := Lib.hid hs9
        have B9 := Lib.hid (grown_to_below B8.out HG.out hg9)
        clear hs9 hg9 y3
        obtain ⟨c0, c1, c2, c3, c4⟩ := (HC2.out.below B9.out hgc).cells
        go_wp2_with (fail)
        refine (delayNext_yes 0 ba ca T (j : Int) bits w9 (by omega) (by omega) (by omega) (by omega) (by omega) (by omega)).mono ?_
        rw [Int.toNat_natCast, ← HDD.out]
        rintro e w10 ⟨rfl, hb10⟩
        have H10 := Lib.hid (H9.out.below hb10 H9.out.lt)
        have B10 := Lib.hid (B9.out.trans (hb10.mono B9.out.size))
        have k1 : (FS.kind == 1) = false := by simpa using HRS.out.2.2
        clear hb10 c0 c1 c2 c3 c4
        go_wp2_with (fail)
        refine (senderFlying w10 g _ H10.out).mono ?_
        rw [k1]
        rintro e w' ⟨rfl, rfl⟩
        go_wp2_with (fail)
        refine (senderLeft w10 g _ H10.out).mono ?_
        rw [HRS.out.1]
        rintro e w' ⟨rfl, rfl⟩
        go_wp2_with (fail)
        refine (senderTries w10 g _ H10.out).mono ?_
        rw [HRS.out.2.1]
        rintro e w' ⟨rfl, rfl⟩
        go_wp2_with (fail)
        refine (senderTick w10 g _ D H10.out (by omega) (by omega) ⟨by rw [HRS.out.1]; omega, by rw [HRS.out.1]; omega⟩ HOK2.out).mono ?_
        rw [hRO.out]
        rintro e w11 ⟨rfl, hs11, hg11⟩
        have H11 := Lib.hid hs11
        have B11 := Lib.hid (grown_to_below B10.out HG.out hg11)
        clear hs11 hg11
        go_wp2_with (fail)
        go_roundw
        case rel => exact ⟨j + 1, by omega, by go_num, by rw [show (((j + 1 : Nat) : Int)) = (j : Int) + 1 from by omega]; exact H11.out, B11.out⟩
        case measure => simp [intOf]; omega
      · have e1 : (((x.toNat : Int) % 3) == 0) = false := by rw [beq_eq_false_iff_ne]; omega
        have e2 : (((x.toNat : Int) % 3) == 1) = false := by rw [beq_eq_false_iff_ne]; omega
        go_wp2_with (fail)
        refine (senderDrop w8 g _ H8.out HOK.out).mono ?_
        rw [if_pos (by rfl), HF.out]
        rintro e w9 ⟨rfl, hs9, hg9⟩
        have H9 := Lib.hid hs9
        have B9 := Lib.hid (grown_to_below B8.out HG.out hg9)
        clear hs9 hg9 y3
        obtain ⟨c0, c1, c2, c3, c4⟩ := (HC2.out.below B9.out hgc).cells
        go_wp2_with (fail)
        refine (delayNext_yes 0 ba ca T (j : Int) bits w9 (by omega) (by omega) (by omega) (by omega) (by omega) (by omega)).mono ?_
        rw [Int.toNat_natCast, ← HDD.out]
        rintro e w10 ⟨rfl, hb10⟩
        have H10 := Lib.hid (H9.out.below hb10 H9.out.lt)
        have B10 := Lib.hid (B9.out.trans (hb10.mono B9.out.size))
        have k1 : (FS.kind == 1) = false := by simpa using HRS.out.2.2
        clear hb10 c0 c1 c2 c3 c4
        go_wp2_with (fail)
        refine (senderFlying w10 g _ H10.out).mono ?_
        rw [k1]
        rintro e w' ⟨rfl, rfl⟩
        go_wp2_with (fail)
        refine (senderLeft w10 g _ H10.out).mono ?_
        rw [HRS.out.1]
        rintro e w' ⟨rfl, rfl⟩
        go_wp2_with (fail)
        refine (senderTries w10 g _ H10.out).mono ?_
        rw [HRS.out.2.1]
        rintro e w' ⟨rfl, rfl⟩
        go_wp2_with (fail)
        refine (senderTick w10 g _ D H10.out (by omega) (by omega) ⟨by rw [HRS.out.1]; omega, by rw [HRS.out.1]; omega⟩ HOK2.out).mono ?_
        rw [hRO.out]
        rintro e w11 ⟨rfl, hs11, hg11⟩
        have H11 := Lib.hid hs11
        have B11 := Lib.hid (grown_to_below B10.out HG.out hg11)
        clear hs11 hg11
        go_wp2_with (fail)
        go_roundw
        case rel => exact ⟨j + 1, by omega, by go_num, by rw [show (((j + 1 : Nat) : Int)) = (j : Int) + 1 from by omega]; exact H11.out, B11.out⟩
        case measure => simp [intOf]; omega
    · obtain rfl : j = n := by omega
      go_wp2_with (fail)
      refine (senderAt wr g _ H6.out).mono ?_
      rintro e w7 ⟨rfl, rfl⟩
      go_wp2_with (fail)
      refine (senderLeft wr g _ H6.out).mono ?_
      rintro e w7 ⟨rfl, rfl⟩
      go_wp2
      go_ret
      exact ⟨rfl, HBW2.out.trans (B6.out.mono HBW2.out.size)⟩

set_option maxRecDepth 100000 in
set_option maxHeartbeats 4000000 in
theorem senderFails_long (a b c : Int) (bits : Nat) (A : Option Addr) (n cp : Nat) (w : World) (hn : 50 < n) :
    Calls Try.prog 8 #[.agg #[.int .i64 a, .int .i64 b, .int .i64 c], .int .u64 (bits : Int), .slice A n cp] w (True_ w) := by
  have ra := kOf_range a
  have rb := kOf_range b
  have rc := kOf_range c
  have cc := fun W => configAny a b c bits W
  unfold cfgOf at cc
  generalize kOf a = ba at *
  generalize kOf b = ca at *
  obtain ⟨T, hT⟩ : ∃ T, T = 1 + kOf c := ⟨_, rfl⟩
  rw [← hT] at cc
  have hT1 : 1 ≤ T := by omega
  have hT2 : T ≤ 1048576 := by omega
  have CC := Lib.hid cc
  have hst := fun (A : Addr) (m : Mode) (W : World) => run_store Try.prog W A (.float .f64 bits) m rfl
  clear cc hT rc
  go_enter Try.func8, Try.ntmps8
  go_wp2_with (fail)
  refine (CC.out _).mono ?_
  rintro e w1 ⟨rfl, hb1⟩
  have hbw : Below w.heap.size w w1 := ((Below.refl _ w).alloc (Nat.le_refl _) _).trans (hb1.mono (by simp))
  have HBW := Lib.hid hbw
  have hz1 := hbw.size
  clear hb1 hbw
  go_wp2_with (fail)
  have HBW2 := Lib.hid (HBW.out.alloc hz1 (.cells #[.int .i64 0, .int .i64 ba, .int .i64 ca, .int .i64 T, .float .f64 bits] 27))
  generalize w1.alloc (.cells #[.int .i64 0, .int .i64 ba, .int .i64 ca, .int .i64 T, .float .f64 bits] 27) = w2 at *
  refine (senderNew 0 ba ca T bits 0 w2 (by omega) (by omega) (by omega) (by omega) (by omega) (by omega) (by omega) (by omega)).mono ?_
  rintro e w3 ⟨g, rfl, hs3, hg3, hb3⟩
  have B3 := Lib.hid (HBW2.out.trans (hb3.mono HBW2.out.size))
  clear hs3 hb3 hg3
  go_wp2_with (fail)
  refine (senderAlive w3).mono ?_
  rintro e w4 ⟨rfl, hb4⟩
  have B4 := Lib.hid (B3.out.trans (hb4.mono B3.out.size))
  clear hb4
  go_wp2_with (fail)
  refine (senderAlive w4).mono ?_
  rintro e w5 ⟨rfl, hb5⟩
  have B5 := Lib.hid (B4.out.trans (hb5.mono B4.out.size))
  clear hb5
  go_wp2
  go_ret
  exact ⟨rfl, B5.out⟩

theorem senderFails_walk (a b c bits : Int) (A : Option Addr) (n cp : Nat) (l : List UInt8) (w : World) (hbits : (Lit.int .u64 bits).wf = true) (hB : Bs w A n cp l) (_hR : cp ≤ 140737488351232) :
    Calls Try.prog 8 #[.agg #[.int .i64 a, .int .i64 b, .int .i64 c], .int .u64 bits, .slice A n cp] w (True_ w) := by
  have hx : 0 ≤ bits := by
    have : 0 ≤ bits ∧ bits ≤ 18446744073709551615 := by simpa [Lit.wf, IntKind.min, IntKind.max, IntKind.signed, IntKind.bits] using hbits
    exact this.1
  obtain ⟨B, rfl⟩ := Int.eq_ofNat_of_zero_le hx
  by_cases h : 50 < n
  · exact senderFails_long a b c B A n cp w h
  · exact senderFails_main a b c B A n cp l w hB (by omega)
end Go.Proofs.Ytcdkcaahmjchjaa
