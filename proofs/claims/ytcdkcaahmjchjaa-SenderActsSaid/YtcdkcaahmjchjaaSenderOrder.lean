/- The law SenderOrder, walked. -/
import Derived.Test.YtcdkcaahmjchjaaSenderInv
namespace Go.Proofs.Ytcdkcaahmjchjaa
open Go.RowKit
set_option linter.unusedVariables false

theorem grown_cell {w w' : World} {g k j : Nat} {v : Value} (hg : w.grownBy w' (some g)) (hne : k ≠ g) (hc : w.cell? ⟨k, j, none⟩ = some v) : w'.cell? ⟨k, j, none⟩ = some v := by
  rw [World.cell?_of_block (hg.block k (World.block_lt_of_cell? w _ hc) (by simpa using hne))]
  exact hc

set_option maxRecDepth 100000 in
set_option maxHeartbeats 8000000 in
theorem senderOrder_main (a b c : Int) (bits : Nat) (A : Option Addr) (n cp : Nat) (L : List (Int × Int)) (w : World) (hB : Ps w A n cp L) (hn : n ≤ 300) :
    Calls Try.prog 5 #[.agg #[.int .i64 a, .int .i64 b, .int .i64 c], .int .u64 (bits : Int), .slice A n cp] w (True_ w) := by
  have HPs := Lib.hid hB
  have ra := kOf_range a
  have rb := kOf_range b
  have rc := kOf_range c
  have cc := fun W => configAny a b c bits W
  unfold cfgOf at cc
  generalize kOf a = ba at *
  generalize kOf b = ca at *
  obtain ⟨T, hT⟩ : ∃ T, T = 1 + kOf c := ⟨_, rfl⟩
  rw [← hT] at cc
  have hT1 : 1 ≤ T := by omega
  have hT2 : T ≤ 1048576 := by omega
  have CC := Lib.hid cc
  have hst := fun (A : Addr) (m : Mode) (W : World) => run_store Try.prog W A (.float .f64 bits) m rfl
  clear cc hT rc hB
  go_enter Try.func5, Try.ntmps5
  go_wp2_with (fail)
  refine (CC.out _).mono ?_
  rintro e w1 ⟨rfl, hb1⟩
  have hbw : Below w.heap.size w w1 := ((Below.refl _ w).alloc (Nat.le_refl _) _).trans (hb1.mono (by simp))
  have HBW := Lib.hid hbw
  have hz1 := hbw.size
  clear hb1 hbw
  go_wp2_with (fail)
  refine (senderNew 0 ba ca T bits 0 w1 (by omega) (by omega) (by omega) (by omega) (by omega) (by omega) (by omega) (by omega)).mono ?_
  rintro e w2' ⟨g, rfl, hs2, hg2, hb2⟩
  have H2 : Hid (IsSnd w2' g (fS ba ca T bits 0 0 0 0 0)) := Lib.hid hs2
  have B2' := Lib.hid (HBW.out.trans (hb2.mono hz1))
  have hgw : w.heap.size ≤ g := Nat.le_trans hz1 hg2
  clear hs2 hb2 hg2
  go_wp2_with (fail)
  refine (senderAlive w2').mono ?_
  rintro e w2 ⟨rfl, hb2⟩
  have H3 := Lib.hid (H2.out.below hb2 H2.out.lt)
  have HBW2 := Lib.hid (B2'.out.trans (hb2.mono B2'.out.size))
  have hglt := H3.out.lt
  have HP2 := Lib.hid (HPs.out.below HBW2.out)
  clear hb2
  have hI0 : Inv (fS ba ca T bits 0 0 0 0 0) := ⟨⟨⟨by show 0 ≤ ba; omega, by show ba ≤ _; omega⟩, ⟨by show 0 ≤ ca; omega, by show ca ≤ _; omega⟩, by show (0 : Int) ≤ 0; omega, by show (0 : Int) ≤ _; omega⟩, ⟨by show (0 : Int) ≤ 0; omega, by show (0 : Int) ≤ _; omega⟩, by show (0 : Int) ≤ 0; omega, by show (0 : Int) ≤ 0; omega, by show (0 : Int) ≤ _; omega, fun hz => absurd (show (0 : Int) = 1 from hz) (by omega), by show 0 ≤ T ∧ T ≤ _; omega⟩
  have HI0 := Lib.hid hI0
  clear hI0
  go_wp2_with (fail)
  go_loopw [9, 10, 42] (fun cf kn i wr => ∃ j : Nat, j ≤ n ∧ i = .int .i64 j ∧ ∃ s : Snd, Inv s ∧ cf = .int .i64 s.pos ∧ kn = .int .i64 s.known ∧ IsSnd wr g s ∧ Below w.heap.size w wr) (fun _ _ i _ => n - (intOf i).toNat)
  case atStart => exact ⟨0, Nat.zero_le _, rfl, _, HI0.out, rfl, rfl, H3.out, HBW2.out⟩
  case round =>
    obtain ⟨j, hj, rfl, s, hi, rfl, rfl, hs, hb⟩ := hrel
    have IV := Lib.hid hi
    have H6 := Lib.hid hs
    have B6 := Lib.hid hb
    have hgs := hs.lt
    clear hs hb hi
    by_cases hlt : j < n
    · obtain ⟨bb, oo, rfl, _, hcx⟩ := (HPs.out.below B6.out).at_ (by omega)
      have hjl : j < L.length := by have := HPs.out.1; omega
      obtain ⟨hc0, hc1⟩ := hcx j _ (List.getElem?_eq_getElem hjl)
      have hwf := HPs.out.2.2.2.2 _ (List.getElem_mem hjl)
      have hpb := wf64 hwf.2
      generalize L[j] = p at *
      clear hcx hwf
      by_cases hk0 : p.1 = 0
      · have k0 : (p.1 == (0 : Int)) = true := by rw [beq_iff_eq]; exact hk0
        clear hk0
        go_wp2_with (fail)
        have z0 := cell_of_row _ wr.heap.size 0 _ _ _ (heap_alloc_new wr (.cells #[.int .i64 p.1, .int .i64 p.2] 38))
        have z1 := cell_of_row _ wr.heap.size 1 _ _ _ (heap_alloc_new wr (.cells #[.int .i64 p.1, .int .i64 p.2] 38))
        simp only [List.getElem?_toArray, List.getElem?_cons_zero, List.getElem?_cons_succ] at z0 z1
        have H7 : Hid (IsSnd (wr.alloc (.cells #[.int .i64 p.1, .int .i64 p.2] 38)) g s) := Lib.hid (H6.out.below ((Below.refl _ wr).alloc (Nat.le_refl _) _) hgs)
        have B7 : Hid (Below w.heap.size w (wr.alloc (.cells #[.int .i64 p.1, .int .i64 p.2] 38))) := Lib.hid (B6.out.alloc B6.out.size _)
        have hne : wr.heap.size ≠ g := by omega
        have HNE := Lib.hid hne
        clear hne hc0 hc1
        generalize wr.alloc (.cells #[.int .i64 p.1, .int .i64 p.2] 38) = w7 at *
        by_cases hv : p.2 < s.known ∨ 1099511627776 < p.2
        · refine (senderOffer w7 g s p.2 H7.out).mono ?_
          rw [if_pos hv, if_pos hv]
          rintro e w8 ⟨rfl, hs8, hg8⟩
          have HS8 := Lib.hid hs8
          have HG8 := Lib.hid hg8
          clear hs8 hg8 z0 z1 hv
          have HS : Hid (IsSnd w8 g (s)) := Lib.hid HS8.out
          have HB : Hid (Below w.heap.size w w8) := Lib.hid (grown_to_below B7.out hgw HG8.out)
          have HI : Hid (Inv (s)) := Lib.hid (IV.out)
          have hp : (s).pos = s.pos ∧ (s).known = s.known := ⟨rfl, rfl⟩
          have hle := HI.out.le
          rw [hp.1, hp.2] at hle
          have HP := Lib.hid hp
          clear hp
          go_wp2_with (fail)
          refine (senderAt _ g _ HS.out).mono ?_
          try rw [HP.out.1]
          rintro e w' ⟨rfl, rfl⟩
          go_wp2_with (fail)
          refine (senderAt _ g _ HS.out).mono ?_
          try rw [HP.out.1]
          rintro e w' ⟨rfl, rfl⟩
          go_wp2_with (fail)
          go_roundw
          case rel => exact ⟨j + 1, by omega, by go_num, _, HI.out, by first | rfl | rw [HP.out.1], by first | rfl | rw [HP.out.2], HS.out, HB.out⟩
          case measure => simp [intOf]; omega
        · refine (senderOffer w7 g s p.2 H7.out).mono ?_
          rw [if_neg hv, if_neg hv]
          rintro e w8 ⟨rfl, hs8, hg8⟩
          have z1' := grown_cell hg8 HNE.out z1
          have HS8 := Lib.hid hs8
          have HG8 := Lib.hid hg8
          have hv1 : s.known ≤ p.2 := by omega
          have hv2 : p.2 ≤ 1099511627776 := by omega
          clear hs8 hg8 z0 z1 hv
          have HS : Hid (IsSnd w8 g ({ s with known := p.2 })) := Lib.hid HS8.out
          have HB : Hid (Below w.heap.size w w8) := Lib.hid (grown_to_below B7.out hgw HG8.out)
          have HI : Hid (Inv ({ s with known := p.2 })) := Lib.hid (offer_inv IV.out hv1 hv2)
          have hp : ({ s with known := p.2 }).pos = s.pos ∧ ({ s with known := p.2 }).known = p.2 := ⟨rfl, rfl⟩
          have hle := HI.out.le
          rw [hp.1, hp.2] at hle
          have HP := Lib.hid hp
          clear hp
          go_wp2_with (fail)
          refine (senderAt _ g _ HS.out).mono ?_
          try rw [HP.out.1]
          rintro e w' ⟨rfl, rfl⟩
          go_wp2_with (fail)
          refine (senderAt _ g _ HS.out).mono ?_
          try rw [HP.out.1]
          rintro e w' ⟨rfl, rfl⟩
          go_wp2_with (fail)
          go_roundw
          case rel => exact ⟨j + 1, by omega, by go_num, _, HI.out, by first | rfl | rw [HP.out.1], by first | rfl | rw [HP.out.2], HS.out, HB.out⟩
          case measure => simp [intOf]; omega
      · by_cases hk1 : p.1 = 1
        · have k0 : (p.1 == (0 : Int)) = false := by rw [beq_eq_false_iff_ne]; exact hk0
          have k1 : (p.1 == (1 : Int)) = true := by rw [beq_iff_eq]; exact hk1
          clear hk0 hk1
          go_wp2_with (fail)
          have z0 := cell_of_row _ wr.heap.size 0 _ _ _ (heap_alloc_new wr (.cells #[.int .i64 p.1, .int .i64 p.2] 38))
          have z1 := cell_of_row _ wr.heap.size 1 _ _ _ (heap_alloc_new wr (.cells #[.int .i64 p.1, .int .i64 p.2] 38))
          simp only [List.getElem?_toArray, List.getElem?_cons_zero, List.getElem?_cons_succ] at z0 z1
          have H7 : Hid (IsSnd (wr.alloc (.cells #[.int .i64 p.1, .int .i64 p.2] 38)) g s) := Lib.hid (H6.out.below ((Below.refl _ wr).alloc (Nat.le_refl _) _) hgs)
          have B7 : Hid (Below w.heap.size w (wr.alloc (.cells #[.int .i64 p.1, .int .i64 p.2] 38))) := Lib.hid (B6.out.alloc B6.out.size _)
          have hne : wr.heap.size ≠ g := by omega
          have HNE := Lib.hid hne
          clear hne hc0 hc1
          generalize wr.alloc (.cells #[.int .i64 p.1, .int .i64 p.2] 38) = w7 at *
          by_cases hv : pollYes s
          · have hv2 : s.pos < s.known := hv.2.2
            refine (senderPoll_yes w7 g s H7.out hv.1 hv.2.1 hv.2.2).mono ?_
            rintro e w8 ⟨rfl, hs8, hg8⟩
            have HS8 := Lib.hid hs8
            have HG8 := Lib.hid hg8
            have hd : decide (s.known ≤ s.pos) = false := by simp; omega
            have HPI : Hid (Inv { s with kind := 1, left := s.timeout }) := Lib.hid (by have := pollS_inv IV.out; unfold pollS at this; rwa [if_pos hv] at this)
            clear hs8 hg8 z0 z1 hv
            go_wp2_with (fail)
            refine (senderFlying w8 g _ HS8.out).mono ?_
            rintro e w' ⟨rfl, rfl⟩
            have HS : Hid (IsSnd w8 g ({ s with kind := 1, left := s.timeout })) := Lib.hid HS8.out
            have HB : Hid (Below w.heap.size w w8) := Lib.hid (grown_to_below B7.out hgw HG8.out)
            have HI : Hid (Inv ({ s with kind := 1, left := s.timeout })) := Lib.hid (HPI.out)
            have hp : ({ s with kind := 1, left := s.timeout }).pos = s.pos ∧ ({ s with kind := 1, left := s.timeout }).known = s.known := ⟨rfl, rfl⟩
            have hle := HI.out.le
            rw [hp.1, hp.2] at hle
            have HP := Lib.hid hp
            clear hp
            go_wp2_with (fail)
            refine (senderAt _ g _ HS.out).mono ?_
            try rw [HP.out.1]
            rintro e w' ⟨rfl, rfl⟩
            go_wp2_with (fail)
            refine (senderAt _ g _ HS.out).mono ?_
            try rw [HP.out.1]
            rintro e w' ⟨rfl, rfl⟩
            go_wp2_with (fail)
            go_roundw
            case rel => exact ⟨j + 1, by omega, by go_num, _, HI.out, by first | rfl | rw [HP.out.1], by first | rfl | rw [HP.out.2], HS.out, HB.out⟩
            case measure => simp [intOf]; omega
          · refine (senderPoll w7 g s H7.out).mono ?_
            rw [if_neg hv, decide_eq_false hv, show pollS s = s from by unfold pollS; rw [if_neg hv]]
            rintro e w8 ⟨rfl, hs8, hg8⟩
            have HS8 := Lib.hid hs8
            have HG8 := Lib.hid hg8
            clear hs8 hg8 z0 z1 hv
            have HS : Hid (IsSnd w8 g (s)) := Lib.hid HS8.out
            have HB : Hid (Below w.heap.size w w8) := Lib.hid (grown_to_below B7.out hgw HG8.out)
            have HI : Hid (Inv (s)) := Lib.hid (IV.out)
            have hp : (s).pos = s.pos ∧ (s).known = s.known := ⟨rfl, rfl⟩
            have hle := HI.out.le
            rw [hp.1, hp.2] at hle
            have HP := Lib.hid hp
            clear hp
            go_wp2_with (fail)
            refine (senderAt _ g _ HS.out).mono ?_
            try rw [HP.out.1]
            rintro e w' ⟨rfl, rfl⟩
            go_wp2_with (fail)
            refine (senderAt _ g _ HS.out).mono ?_
            try rw [HP.out.1]
            rintro e w' ⟨rfl, rfl⟩
            go_wp2_with (fail)
            go_roundw
            case rel => exact ⟨j + 1, by omega, by go_num, _, HI.out, by first | rfl | rw [HP.out.1], by first | rfl | rw [HP.out.2], HS.out, HB.out⟩
            case measure => simp [intOf]; omega
        · by_cases hk2 : p.1 = 2
          · have k0 : (p.1 == (0 : Int)) = false := by rw [beq_eq_false_iff_ne]; exact hk0
            have k1 : (p.1 == (1 : Int)) = false := by rw [beq_eq_false_iff_ne]; exact hk1
            have k2 : (p.1 == (2 : Int)) = true := by rw [beq_iff_eq]; exact hk2
            clear hk0 hk1 hk2
            go_wp2_with (fail)
            have z0 := cell_of_row _ wr.heap.size 0 _ _ _ (heap_alloc_new wr (.cells #[.int .i64 p.1, .int .i64 p.2] 38))
            have z1 := cell_of_row _ wr.heap.size 1 _ _ _ (heap_alloc_new wr (.cells #[.int .i64 p.1, .int .i64 p.2] 38))
            simp only [List.getElem?_toArray, List.getElem?_cons_zero, List.getElem?_cons_succ] at z0 z1
            have H7 : Hid (IsSnd (wr.alloc (.cells #[.int .i64 p.1, .int .i64 p.2] 38)) g s) := Lib.hid (H6.out.below ((Below.refl _ wr).alloc (Nat.le_refl _) _) hgs)
            have B7 : Hid (Below w.heap.size w (wr.alloc (.cells #[.int .i64 p.1, .int .i64 p.2] 38))) := Lib.hid (B6.out.alloc B6.out.size _)
            have hne : wr.heap.size ≠ g := by omega
            have HNE := Lib.hid hne
            clear hne hc0 hc1
            generalize wr.alloc (.cells #[.int .i64 p.1, .int .i64 p.2] 38) = w7 at *
            refine (senderFlying w7 g s H7.out).mono ?_
            by_cases hf : s.kind = 1
            · have hv2 := IV.out.fly hf
              have hv3 := IV.out.known
              have hv4 := IV.out.pos
              rw [show (s.kind == 1) = true from by rw [beq_iff_eq]; exact hf]
              rintro e w' ⟨rfl, rfl⟩
              go_wp2_with (fail)
              refine (senderAnswer_yes w7 g s H7.out (by omega)).mono ?_
              rw [show (s.kind == 1) = true from by rw [beq_iff_eq]; exact hf]
              rintro e w8 ⟨rfl, hs8, hg8⟩
              have z0' := grown_cell hg8 HNE.out z0
              have HS8 := Lib.hid hs8
              have HG8 := Lib.hid hg8
              have HPP : Hid ((answerS s true).pos = s.pos + 1 ∧ (answerS s true).known = s.known) := Lib.hid (by have := answerS_pos s true; rw [show (s.kind == 1) = true from by rw [beq_iff_eq]; exact hf] at this; exact this)
              clear hs8 hg8 z0 z1 hf
              have HS : Hid (IsSnd w8 g (answerS s true)) := Lib.hid HS8.out
              have HB : Hid (Below w.heap.size w w8) := Lib.hid (grown_to_below B7.out hgw HG8.out)
              have HI : Hid (Inv (answerS s true)) := Lib.hid (answerS_inv IV.out true)
              have hp : (answerS s true).pos = (s.pos + 1) ∧ (answerS s true).known = s.known := HPP.out
              have hle := HI.out.le
              rw [hp.1, hp.2] at hle
              have HP := Lib.hid hp
              clear hp
              go_wp2_with (fail)
              refine (senderAt _ g _ HS.out).mono ?_
              try rw [HP.out.1]
              rintro e w' ⟨rfl, rfl⟩
              go_wp2_with (fail)
              refine (senderAt _ g _ HS.out).mono ?_
              try rw [HP.out.1]
              rintro e w' ⟨rfl, rfl⟩
              go_wp2_with (fail)
              go_roundw
              case rel => exact ⟨j + 1, by omega, by go_num, _, HI.out, by first | rfl | rw [HP.out.1], by first | rfl | rw [HP.out.2], HS.out, HB.out⟩
              case measure => simp [intOf]; omega
            · have hv3 := IV.out.known
              have hv4 := IV.out.pos
              have hv5 := IV.out.le
              rw [show (s.kind == 1) = false from by rw [beq_eq_false_iff_ne]; exact hf]
              rintro e w' ⟨rfl, rfl⟩
              go_wp2_with (fail)
              refine (senderAnswer_yes w7 g s H7.out (by omega)).mono ?_
              rw [show (s.kind == 1) = false from by rw [beq_eq_false_iff_ne]; exact hf, show answerS s true = s from by unfold answerS; rw [if_neg hf]]
              rintro e w8 ⟨rfl, hs8, hg8⟩
              have HS8 := Lib.hid hs8
              have HG8 := Lib.hid hg8
              clear hs8 hg8 z0 z1 hf
              have HS : Hid (IsSnd w8 g (s)) := Lib.hid HS8.out
              have HB : Hid (Below w.heap.size w w8) := Lib.hid (grown_to_below B7.out hgw HG8.out)
              have HI : Hid (Inv (s)) := Lib.hid (IV.out)
              have hp : (s).pos = s.pos ∧ (s).known = s.known := ⟨rfl, rfl⟩
              have hle := HI.out.le
              rw [hp.1, hp.2] at hle
              have HP := Lib.hid hp
              clear hp
              go_wp2_with (fail)
              refine (senderAt _ g _ HS.out).mono ?_
              try rw [HP.out.1]
              rintro e w' ⟨rfl, rfl⟩
              go_wp2_with (fail)
              refine (senderAt _ g _ HS.out).mono ?_
              try rw [HP.out.1]
              rintro e w' ⟨rfl, rfl⟩
              go_wp2_with (fail)
              go_roundw
              case rel => exact ⟨j + 1, by omega, by go_num, _, HI.out, by first | rfl | rw [HP.out.1], by first | rfl | rw [HP.out.2], HS.out, HB.out⟩
              case measure => simp [intOf]; omega
          · by_cases hk3 : p.1 = 3
            · have k0 : (p.1 == (0 : Int)) = false := by rw [beq_eq_false_iff_ne]; exact hk0
              have k1 : (p.1 == (1 : Int)) = false := by rw [beq_eq_false_iff_ne]; exact hk1
              have k2 : (p.1 == (2 : Int)) = false := by rw [beq_eq_false_iff_ne]; exact hk2
              have k3 : (p.1 == (3 : Int)) = true := by rw [beq_iff_eq]; exact hk3
              clear hk0 hk1 hk2 hk3
              go_wp2_with (fail)
              have z0 := cell_of_row _ wr.heap.size 0 _ _ _ (heap_alloc_new wr (.cells #[.int .i64 p.1, .int .i64 p.2] 38))
              have z1 := cell_of_row _ wr.heap.size 1 _ _ _ (heap_alloc_new wr (.cells #[.int .i64 p.1, .int .i64 p.2] 38))
              simp only [List.getElem?_toArray, List.getElem?_cons_zero, List.getElem?_cons_succ] at z0 z1
              have H7 : Hid (IsSnd (wr.alloc (.cells #[.int .i64 p.1, .int .i64 p.2] 38)) g s) := Lib.hid (H6.out.below ((Below.refl _ wr).alloc (Nat.le_refl _) _) hgs)
              have B7 : Hid (Below w.heap.size w (wr.alloc (.cells #[.int .i64 p.1, .int .i64 p.2] 38))) := Lib.hid (B6.out.alloc B6.out.size _)
              have hne : wr.heap.size ≠ g := by omega
              have HNE := Lib.hid hne
              clear hne hc0 hc1
              generalize wr.alloc (.cells #[.int .i64 p.1, .int .i64 p.2] 38) = w7 at *
              refine (senderFlying w7 g s H7.out).mono ?_
              by_cases hf : s.kind = 1
              · have hv2 := IV.out.fly hf
                have hv3 := IV.out.known
                have hv4 := IV.out.pos
                rw [show (s.kind == 1) = true from by rw [beq_iff_eq]; exact hf]
                rintro e w' ⟨rfl, rfl⟩
                go_wp2_with (fail)
                refine (senderAnswer_no w7 g s H7.out IV.out.ok).mono ?_
                rintro e w8 ⟨rfl, hs8, hg8⟩
                have z0' := grown_cell hg8 HNE.out z0
                have HS8 := Lib.hid hs8
                have HG8 := Lib.hid hg8
                have HPP : Hid ((answerS s false).pos = s.pos ∧ (answerS s false).known = s.known) := Lib.hid (by have := answerS_pos s false; rw [Bool.and_false] at this; exact this)
                clear hs8 hg8 z0 z1 hf
                have HS : Hid (IsSnd w8 g (answerS s false)) := Lib.hid HS8.out
                have HB : Hid (Below w.heap.size w w8) := Lib.hid (grown_to_below B7.out hgw HG8.out)
                have HI : Hid (Inv (answerS s false)) := Lib.hid (answerS_inv IV.out false)
                have hp : (answerS s false).pos = s.pos ∧ (answerS s false).known = s.known := HPP.out
                have hle := HI.out.le
                rw [hp.1, hp.2] at hle
                have HP := Lib.hid hp
                clear hp
                go_wp2_with (fail)
                refine (senderAt _ g _ HS.out).mono ?_
                try rw [HP.out.1]
                rintro e w' ⟨rfl, rfl⟩
                go_wp2_with (fail)
                refine (senderAt _ g _ HS.out).mono ?_
                try rw [HP.out.1]
                rintro e w' ⟨rfl, rfl⟩
                go_wp2_with (fail)
                go_roundw
                case rel => exact ⟨j + 1, by omega, by go_num, _, HI.out, by first | rfl | rw [HP.out.1], by first | rfl | rw [HP.out.2], HS.out, HB.out⟩
                case measure => simp [intOf]; omega
              · have hv3 := IV.out.known
                have hv4 := IV.out.pos
                have hv5 := IV.out.le
                rw [show (s.kind == 1) = false from by rw [beq_eq_false_iff_ne]; exact hf]
                rintro e w' ⟨rfl, rfl⟩
                go_wp2_with (fail)
                refine (senderAnswer_no w7 g s H7.out IV.out.ok).mono ?_
                rw [show answerS s false = s from by unfold answerS; rw [if_neg hf]]
                rintro e w8 ⟨rfl, hs8, hg8⟩
                have HS8 := Lib.hid hs8
                have HG8 := Lib.hid hg8
                clear hs8 hg8 z0 z1 hf
                have HS : Hid (IsSnd w8 g (s)) := Lib.hid HS8.out
                have HB : Hid (Below w.heap.size w w8) := Lib.hid (grown_to_below B7.out hgw HG8.out)
                have HI : Hid (Inv (s)) := Lib.hid (IV.out)
                have hp : (s).pos = s.pos ∧ (s).known = s.known := ⟨rfl, rfl⟩
                have hle := HI.out.le
                rw [hp.1, hp.2] at hle
                have HP := Lib.hid hp
                clear hp
                go_wp2_with (fail)
                refine (senderAt _ g _ HS.out).mono ?_
                try rw [HP.out.1]
                rintro e w' ⟨rfl, rfl⟩
                go_wp2_with (fail)
                refine (senderAt _ g _ HS.out).mono ?_
                try rw [HP.out.1]
                rintro e w' ⟨rfl, rfl⟩
                go_wp2_with (fail)
                go_roundw
                case rel => exact ⟨j + 1, by omega, by go_num, _, HI.out, by first | rfl | rw [HP.out.1], by first | rfl | rw [HP.out.2], HS.out, HB.out⟩
                case measure => simp [intOf]; omega
            · by_cases hk4 : p.1 = 4
              · have k0 : (p.1 == (0 : Int)) = false := by rw [beq_eq_false_iff_ne]; exact hk0
                have k1 : (p.1 == (1 : Int)) = false := by rw [beq_eq_false_iff_ne]; exact hk1
                have k2 : (p.1 == (2 : Int)) = false := by rw [beq_eq_false_iff_ne]; exact hk2
                have k3 : (p.1 == (3 : Int)) = false := by rw [beq_eq_false_iff_ne]; exact hk3
                have k4 : (p.1 == (4 : Int)) = true := by rw [beq_iff_eq]; exact hk4
                clear hk0 hk1 hk2 hk3 hk4
                go_wp2_with (fail)
                have z0 := cell_of_row _ wr.heap.size 0 _ _ _ (heap_alloc_new wr (.cells #[.int .i64 p.1, .int .i64 p.2] 38))
                have z1 := cell_of_row _ wr.heap.size 1 _ _ _ (heap_alloc_new wr (.cells #[.int .i64 p.1, .int .i64 p.2] 38))
                simp only [List.getElem?_toArray, List.getElem?_cons_zero, List.getElem?_cons_succ] at z0 z1
                have H7 : Hid (IsSnd (wr.alloc (.cells #[.int .i64 p.1, .int .i64 p.2] 38)) g s) := Lib.hid (H6.out.below ((Below.refl _ wr).alloc (Nat.le_refl _) _) hgs)
                have B7 : Hid (Below w.heap.size w (wr.alloc (.cells #[.int .i64 p.1, .int .i64 p.2] 38))) := Lib.hid (B6.out.alloc B6.out.size _)
                have hne : wr.heap.size ≠ g := by omega
                have HNE := Lib.hid hne
                clear hne hc0 hc1
                generalize wr.alloc (.cells #[.int .i64 p.1, .int .i64 p.2] 38) = w7 at *
                by_cases hv : p.2 < 0
                · refine (senderTick_neg w7 g s p.2 H7.out hv).mono ?_
                  rintro e w8 ⟨rfl, hs8, hg8⟩
                  have HS8 := Lib.hid hs8
                  have HG8 := Lib.hid hg8
                  clear hs8 hg8 z0 z1 hv
                  have HS : Hid (IsSnd w8 g (s)) := Lib.hid HS8.out
                  have HB : Hid (Below w.heap.size w w8) := Lib.hid (grown_to_below B7.out hgw HG8.out)
                  have HI : Hid (Inv (s)) := Lib.hid (IV.out)
                  have hp : (s).pos = s.pos ∧ (s).known = s.known := ⟨rfl, rfl⟩
                  have hle := HI.out.le
                  rw [hp.1, hp.2] at hle
                  have HP := Lib.hid hp
                  clear hp
                  go_wp2_with (fail)
                  refine (senderAt _ g _ HS.out).mono ?_
                  try rw [HP.out.1]
                  rintro e w' ⟨rfl, rfl⟩
                  go_wp2_with (fail)
                  refine (senderAt _ g _ HS.out).mono ?_
                  try rw [HP.out.1]
                  rintro e w' ⟨rfl, rfl⟩
                  go_wp2_with (fail)
                  go_roundw
                  case rel => exact ⟨j + 1, by omega, by go_num, _, HI.out, by first | rfl | rw [HP.out.1], by first | rfl | rw [HP.out.2], HS.out, HB.out⟩
                  case measure => simp [intOf]; omega
                · refine (senderTick w7 g s p.2 H7.out (by omega) hpb.2 IV.out.left IV.out.ok).mono ?_
                  rintro e w8 ⟨rfl, hs8, hg8⟩
                  have HS8 := Lib.hid hs8
                  have HG8 := Lib.hid hg8
                  have HTI : Hid (Inv (tickS s p.2)) := Lib.hid (tickS_inv IV.out (by omega))
                  clear hs8 hg8 z0 z1 hv
                  have HS : Hid (IsSnd w8 g (tickS s p.2)) := Lib.hid HS8.out
                  have HB : Hid (Below w.heap.size w w8) := Lib.hid (grown_to_below B7.out hgw HG8.out)
                  have HI : Hid (Inv (tickS s p.2)) := Lib.hid (HTI.out)
                  have hp : (tickS s p.2).pos = s.pos ∧ (tickS s p.2).known = s.known := tickS_pos s p.2
                  have hle := HI.out.le
                  rw [hp.1, hp.2] at hle
                  have HP := Lib.hid hp
                  clear hp
                  go_wp2_with (fail)
                  refine (senderAt _ g _ HS.out).mono ?_
                  try rw [HP.out.1]
                  rintro e w' ⟨rfl, rfl⟩
                  go_wp2_with (fail)
                  refine (senderAt _ g _ HS.out).mono ?_
                  try rw [HP.out.1]
                  rintro e w' ⟨rfl, rfl⟩
                  go_wp2_with (fail)
                  go_roundw
                  case rel => exact ⟨j + 1, by omega, by go_num, _, HI.out, by first | rfl | rw [HP.out.1], by first | rfl | rw [HP.out.2], HS.out, HB.out⟩
                  case measure => simp [intOf]; omega
              · by_cases hk5 : p.1 = 5
                · have k0 : (p.1 == (0 : Int)) = false := by rw [beq_eq_false_iff_ne]; exact hk0
                  have k1 : (p.1 == (1 : Int)) = false := by rw [beq_eq_false_iff_ne]; exact hk1
                  have k2 : (p.1 == (2 : Int)) = false := by rw [beq_eq_false_iff_ne]; exact hk2
                  have k3 : (p.1 == (3 : Int)) = false := by rw [beq_eq_false_iff_ne]; exact hk3
                  have k4 : (p.1 == (4 : Int)) = false := by rw [beq_eq_false_iff_ne]; exact hk4
                  have k5 : (p.1 == (5 : Int)) = true := by rw [beq_iff_eq]; exact hk5
                  clear hk0 hk1 hk2 hk3 hk4 hk5
                  go_wp2_with (fail)
                  have z0 := cell_of_row _ wr.heap.size 0 _ _ _ (heap_alloc_new wr (.cells #[.int .i64 p.1, .int .i64 p.2] 38))
                  have z1 := cell_of_row _ wr.heap.size 1 _ _ _ (heap_alloc_new wr (.cells #[.int .i64 p.1, .int .i64 p.2] 38))
                  simp only [List.getElem?_toArray, List.getElem?_cons_zero, List.getElem?_cons_succ] at z0 z1
                  have H7 : Hid (IsSnd (wr.alloc (.cells #[.int .i64 p.1, .int .i64 p.2] 38)) g s) := Lib.hid (H6.out.below ((Below.refl _ wr).alloc (Nat.le_refl _) _) hgs)
                  have B7 : Hid (Below w.heap.size w (wr.alloc (.cells #[.int .i64 p.1, .int .i64 p.2] 38))) := Lib.hid (B6.out.alloc B6.out.size _)
                  have hne : wr.heap.size ≠ g := by omega
                  have HNE := Lib.hid hne
                  clear hne hc0 hc1
                  generalize wr.alloc (.cells #[.int .i64 p.1, .int .i64 p.2] 38) = w7 at *
                  refine (senderDrop w7 g s H7.out IV.out.ok).mono ?_
                  by_cases hv : s.kind = 1
                  · rw [if_pos hv]
                    rintro e w8 ⟨rfl, hs8, hg8⟩
                    have HS8 := Lib.hid hs8
                    have HG8 := Lib.hid hg8
                    clear hs8 hg8 z0 z1 hv
                    have HS : Hid (IsSnd w8 g (failS s)) := Lib.hid HS8.out
                    have HB : Hid (Below w.heap.size w w8) := Lib.hid (grown_to_below B7.out hgw HG8.out)
                    have HI : Hid (Inv (failS s)) := Lib.hid (failS_inv IV.out)
                    have hp : (failS s).pos = s.pos ∧ (failS s).known = s.known := failS_pos s
                    have hle := HI.out.le
                    rw [hp.1, hp.2] at hle
                    have HP := Lib.hid hp
                    clear hp
                    go_wp2_with (fail)
                    refine (senderAt _ g _ HS.out).mono ?_
                    try rw [HP.out.1]
                    rintro e w' ⟨rfl, rfl⟩
                    go_wp2_with (fail)
                    refine (senderAt _ g _ HS.out).mono ?_
                    try rw [HP.out.1]
                    rintro e w' ⟨rfl, rfl⟩
                    go_wp2_with (fail)
                    go_roundw
                    case rel => exact ⟨j + 1, by omega, by go_num, _, HI.out, by first | rfl | rw [HP.out.1], by first | rfl | rw [HP.out.2], HS.out, HB.out⟩
                    case measure => simp [intOf]; omega
                  · rw [if_neg hv]
                    rintro e w8 ⟨rfl, hs8, hg8⟩
                    have HS8 := Lib.hid hs8
                    have HG8 := Lib.hid hg8
                    clear hs8 hg8 z0 z1 hv
                    have HS : Hid (IsSnd w8 g (s)) := Lib.hid HS8.out
                    have HB : Hid (Below w.heap.size w w8) := Lib.hid (grown_to_below B7.out hgw HG8.out)
                    have HI : Hid (Inv (s)) := Lib.hid (IV.out)
                    have hp : (s).pos = s.pos ∧ (s).known = s.known := ⟨rfl, rfl⟩
                    have hle := HI.out.le
                    rw [hp.1, hp.2] at hle
                    have HP := Lib.hid hp
                    clear hp
                    go_wp2_with (fail)
                    refine (senderAt _ g _ HS.out).mono ?_
                    try rw [HP.out.1]
                    rintro e w' ⟨rfl, rfl⟩
                    go_wp2_with (fail)
                    refine (senderAt _ g _ HS.out).mono ?_
                    try rw [HP.out.1]
                    rintro e w' ⟨rfl, rfl⟩
                    go_wp2_with (fail)
                    go_roundw
                    case rel => exact ⟨j + 1, by omega, by go_num, _, HI.out, by first | rfl | rw [HP.out.1], by first | rfl | rw [HP.out.2], HS.out, HB.out⟩
                    case measure => simp [intOf]; omega
                · have k0 : (p.1 == (0 : Int)) = false := by rw [beq_eq_false_iff_ne]; exact hk0
                  have k1 : (p.1 == (1 : Int)) = false := by rw [beq_eq_false_iff_ne]; exact hk1
                  have k2 : (p.1 == (2 : Int)) = false := by rw [beq_eq_false_iff_ne]; exact hk2
                  have k3 : (p.1 == (3 : Int)) = false := by rw [beq_eq_false_iff_ne]; exact hk3
                  have k4 : (p.1 == (4 : Int)) = false := by rw [beq_eq_false_iff_ne]; exact hk4
                  have k5 : (p.1 == (5 : Int)) = false := by rw [beq_eq_false_iff_ne]; exact hk5
                  clear hk0 hk1 hk2 hk3 hk4 hk5
                  go_wp2_with (fail)
                  have z0 := cell_of_row _ wr.heap.size 0 _ _ _ (heap_alloc_new wr (.cells #[.int .i64 p.1, .int .i64 p.2] 38))
                  have z1 := cell_of_row _ wr.heap.size 1 _ _ _ (heap_alloc_new wr (.cells #[.int .i64 p.1, .int .i64 p.2] 38))
                  simp only [List.getElem?_toArray, List.getElem?_cons_zero, List.getElem?_cons_succ] at z0 z1
                  have H7 : Hid (IsSnd (wr.alloc (.cells #[.int .i64 p.1, .int .i64 p.2] 38)) g s) := Lib.hid (H6.out.below ((Below.refl _ wr).alloc (Nat.le_refl _) _) hgs)
                  have B7 : Hid (Below w.heap.size w (wr.alloc (.cells #[.int .i64 p.1, .int .i64 p.2] 38))) := Lib.hid (B6.out.alloc B6.out.size _)
                  have hne : wr.heap.size ≠ g := by omega
                  have HNE := Lib.hid hne
                  clear hne hc0 hc1
                  generalize wr.alloc (.cells #[.int .i64 p.1, .int .i64 p.2] 38) = w7 at *
                  clear z0 z1
                  have HS : Hid (IsSnd w7 g (s)) := Lib.hid H7.out
                  have HB : Hid (Below w.heap.size w w7) := Lib.hid (B7.out)
                  have HI : Hid (Inv (s)) := Lib.hid (IV.out)
                  have hp : (s).pos = s.pos ∧ (s).known = s.known := ⟨rfl, rfl⟩
                  have hle := HI.out.le
                  rw [hp.1, hp.2] at hle
                  have HP := Lib.hid hp
                  clear hp
                  refine (senderAt _ g _ HS.out).mono ?_
                  try rw [HP.out.1]
                  rintro e w' ⟨rfl, rfl⟩
                  go_wp2_with (fail)
                  refine (senderAt _ g _ HS.out).mono ?_
                  try rw [HP.out.1]
                  rintro e w' ⟨rfl, rfl⟩
                  go_wp2_with (fail)
                  go_roundw
                  case rel => exact ⟨j + 1, by omega, by go_num, _, HI.out, by first | rfl | rw [HP.out.1], by first | rfl | rw [HP.out.2], HS.out, HB.out⟩
                  case measure => simp [intOf]; omega
    · go_wp2
      go_ret
      exact ⟨rfl, B6.out⟩

set_option maxRecDepth 100000 in
set_option maxHeartbeats 4000000 in
theorem senderOrder_long (a b c : Int) (bits : Nat) (A : Option Addr) (n cp : Nat) (w : World) (hn : 300 < n) :
    Calls Try.prog 5 #[.agg #[.int .i64 a, .int .i64 b, .int .i64 c], .int .u64 (bits : Int), .slice A n cp] w (True_ w) := by
  have ra := kOf_range a
  have rb := kOf_range b
  have rc := kOf_range c
  have cc := fun W => configAny a b c bits W
  unfold cfgOf at cc
  generalize kOf a = ba at *
  generalize kOf b = ca at *
  obtain ⟨T, hT⟩ : ∃ T, T = 1 + kOf c := ⟨_, rfl⟩
  rw [← hT] at cc
  have hT1 : 1 ≤ T := by omega
  have hT2 : T ≤ 1048576 := by omega
  have CC := Lib.hid cc
  have hst := fun (A : Addr) (m : Mode) (W : World) => run_store Try.prog W A (.float .f64 bits) m rfl
  clear cc hT rc
  go_enter Try.func5, Try.ntmps5
  go_wp2_with (fail)
  refine (CC.out _).mono ?_
  rintro e w1 ⟨rfl, hb1⟩
  have hbw : Below w.heap.size w w1 := ((Below.refl _ w).alloc (Nat.le_refl _) _).trans (hb1.mono (by simp))
  have HBW := Lib.hid hbw
  have hz1 := hbw.size
  clear hb1 hbw
  go_wp2_with (fail)
  refine (senderNew 0 ba ca T bits 0 w1 (by omega) (by omega) (by omega) (by omega) (by omega) (by omega) (by omega) (by omega)).mono ?_
  rintro e w2' ⟨g, rfl, hs2, hg2, hb2⟩
  have B2' := Lib.hid (HBW.out.trans (hb2.mono hz1))
  clear hs2 hb2 hg2
  go_wp2_with (fail)
  refine (senderAlive w2').mono ?_
  rintro e w2 ⟨rfl, hb2⟩
  have B2 := Lib.hid (B2'.out.trans (hb2.mono B2'.out.size))
  clear hb2
  go_wp2_with (fail)
  refine (senderAlive w2).mono ?_
  rintro e w3 ⟨rfl, hb3⟩
  have B3 := Lib.hid (B2.out.trans (hb3.mono B2.out.size))
  clear hb3
  go_wp2
  go_ret
  exact ⟨rfl, B3.out⟩

theorem senderOrder_walk (a b c bits : Int) (A : Option Addr) (n cp : Nat) (L : List (Int × Int)) (w : World) (hbits : (Lit.int .u64 bits).wf = true) (hB : Ps w A n cp L) :
    Calls Try.prog 5 #[.agg #[.int .i64 a, .int .i64 b, .int .i64 c], .int .u64 bits, .slice A n cp] w (True_ w) := by
  have hx : 0 ≤ bits := by
    have : 0 ≤ bits ∧ bits ≤ 18446744073709551615 := by simpa [Lit.wf, IntKind.min, IntKind.max, IntKind.signed, IntKind.bits] using hbits
    exact this.1
  obtain ⟨B, rfl⟩ := Int.eq_ofNat_of_zero_le hx
  by_cases h : 300 < n
  · exact senderOrder_long a b c B A n cp w h
  · exact senderOrder_main a b c B A n cp L w hB (by omega)
end Go.Proofs.Ytcdkcaahmjchjaa
