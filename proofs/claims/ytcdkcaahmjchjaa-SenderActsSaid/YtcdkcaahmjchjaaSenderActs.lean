/- The law SenderActs, walked. -/
import Derived.Test.YtcdkcaahmjchjaaRefSnd3
import Derived.Test.YtcdkcaahmjchjaaSenderOrder
namespace Go.Proofs.Ytcdkcaahmjchjaa
open Go.RowKit
set_option linter.unusedVariables false

set_option maxRecDepth 100000 in
set_option maxHeartbeats 16000000 in
theorem senderActs_main (a b c : Int) (bits : Nat) (A : Option Addr) (n cp : Nat) (L : List (Int × Int)) (w : World) (hB : Ps w A n cp L) (hn : n ≤ 300) :
    Calls Try.prog 3 #[.agg #[.int .i64 a, .int .i64 b, .int .i64 c], .int .u64 (bits : Int), .slice A n cp] w (True_ w) := by
  have HPs := Lib.hid hB
  have ra := kOf_range a
  have rb := kOf_range b
  have rc := kOf_range c
  have cc := fun W => configAny a b c bits W
  unfold cfgOf at cc
  generalize kOf a = ba at *
  generalize kOf b = ca at *
  obtain ⟨T, hT⟩ : ∃ T, T = 1 + kOf c := ⟨_, rfl⟩
  rw [← hT] at cc
  have hT1 : 1 ≤ T := by omega
  have hT2 : T ≤ 1048576 := by omega
  have CC := Lib.hid cc
  have hst := fun (A : Addr) (m : Mode) (W : World) => run_store Try.prog W A (.float .f64 bits) m rfl
  clear cc hT rc hB
  go_enter Try.func3, Try.ntmps3
  go_wp2_with (fail)
  refine (CC.out _).mono ?_
  rintro e w1 ⟨rfl, hb1⟩
  have hbw : Below w.heap.size w w1 := ((Below.refl _ w).alloc (Nat.le_refl _) _).trans (hb1.mono (by simp))
  have HBW := Lib.hid hbw
  have hz1 := hbw.size
  clear hb1 hbw
  go_wp2_with (fail)
  have hc2 : IsCfg (w1.alloc (.cells #[.int .i64 0, .int .i64 ba, .int .i64 ca, .int .i64 T, .float .f64 bits] 27)) w1.heap.size ba ca T bits := heap_alloc_new w1 _
  have HBW2 := Lib.hid (HBW.out.alloc hz1 (.cells #[.int .i64 0, .int .i64 ba, .int .i64 ca, .int .i64 T, .float .f64 bits] 27))
  generalize w1.alloc (.cells #[.int .i64 0, .int .i64 ba, .int .i64 ca, .int .i64 T, .float .f64 bits] 27) = w2 at *
  have HC2 := Lib.hid hc2
  have hgc := hc2.lt
  clear hc2
  refine (senderNew 0 ba ca T bits 0 w2 (by omega) (by omega) (by omega) (by omega) (by omega) (by omega) (by omega) (by omega)).mono ?_
  rintro e w3 ⟨g, rfl, hs3, hg3, hb3⟩
  have H3 : Hid (IsSnd w3 g (fS ba ca T bits 0 0 0 0 0)) := Lib.hid hs3
  have B3 := Lib.hid (HBW2.out.trans (hb3.mono HBW2.out.size))
  have hgw : w.heap.size ≤ g := Nat.le_trans HBW2.out.size hg3
  obtain ⟨c0, c1, c2, c3, c4⟩ := (HC2.out.below hb3 hgc).cells
  clear hs3 hb3 hg3
  go_wp2_with (fail)
  refine (refNew ba ca T bits 0 w3 (by omega) (by omega) (by omega) (by omega) (by omega) (by omega) (by omega) (by omega)).mono ?_
  rintro e w4 ⟨g2, rfl, hs4, hg4, hb4⟩
  have hlt1 := H3.out.lt
  have HN12 : Hid (g ≠ g2) := Lib.hid (by omega)
  have hgw2 : w.heap.size ≤ g2 := Nat.le_trans B3.out.size hg4
  have H4 := Lib.hid (H3.out.below hb4 hlt1)
  have R4 : Hid (IsRef w4 g2 (toRef (fS ba ca T bits 0 0 0 0 0))) := Lib.hid hs4
  have B4 := Lib.hid (B3.out.trans (hb4.mono B3.out.size))
  clear hs4 hb4 hg4 c0 c1 c2 c3 c4 hlt1
  go_wp2_with (fail)
  refine (senderAlive w4).mono ?_
  rintro e w5 ⟨rfl, hb5⟩
  have H5 := Lib.hid (H4.out.below hb5 H4.out.lt)
  have R5 := Lib.hid (R4.out.below hb5 R4.out.lt)
  have B5 := Lib.hid (B4.out.trans (hb5.mono B4.out.size))
  clear hb5
  have hI0 : Inv (fS ba ca T bits 0 0 0 0 0) := ⟨⟨⟨by show 0 ≤ ba; omega, by show ba ≤ _; omega⟩, ⟨by show 0 ≤ ca; omega, by show ca ≤ _; omega⟩, by show (0 : Int) ≤ 0; omega, by show (0 : Int) ≤ _; omega⟩, ⟨by show (0 : Int) ≤ 0; omega, by show (0 : Int) ≤ _; omega⟩, by show (0 : Int) ≤ 0; omega, by show (0 : Int) ≤ 0; omega, by show (0 : Int) ≤ _; omega, fun hz => absurd (show (0 : Int) = 1 from hz) (by omega), by show 0 ≤ T ∧ T ≤ _; omega⟩
  have HI0 := Lib.hid hI0
  have HI02 : Hid (Inv2 (fS ba ca T bits 0 0 0 0 0)) := Lib.hid ⟨.inl rfl, fun _ => rfl⟩
  clear hI0
  go_wp2_with (fail)
  go_loopw [64] (fun i wr => ∃ j : Nat, j ≤ n ∧ i = .int .i64 j ∧ ∃ s : Snd, Inv s ∧ Inv2 s ∧ IsSnd wr g s ∧ IsRef wr g2 (toRef s) ∧ Below w.heap.size w wr) (fun i _ => n - (intOf i).toNat)
  case atStart => exact ⟨0, Nat.zero_le _, rfl, _, HI0.out, HI02.out, H5.out, R5.out, B5.out⟩
  case round =>
    obtain ⟨j, hj, rfl, s, hi, hi2, hs, hr, hb⟩ := hrel
    have IV := Lib.hid hi
    have IV2 := Lib.hid hi2
    have H6 := Lib.hid hs
    have R6 := Lib.hid hr
    have B6 := Lib.hid hb
    have hgs := hs.lt
    have hgs2 := hr.lt
    clear hs hb hi hi2 hr
    by_cases hlt : j < n
    · obtain ⟨bb, oo, rfl, _, hcx⟩ := (HPs.out.below B6.out).at_ (by omega)
      have hjl : j < L.length := by have := HPs.out.1; omega
      obtain ⟨hc0, hc1⟩ := hcx j _ (List.getElem?_eq_getElem hjl)
      have hwf := HPs.out.2.2.2.2 _ (List.getElem_mem hjl)
      have hpb := wf64 hwf.2
      generalize L[j] = p at *
      clear hcx hwf
      by_cases hk0 : p.1 = 0
      · have k0 : (p.1 == (0 : Int)) = true := by rw [beq_iff_eq]; exact hk0
        clear hk0
        go_wp2_with (fail)
        obtain ⟨G, hG⟩ : ∃ G, G = wr.heap.size := ⟨_, rfl⟩
        have z0 := cell_of_row _ wr.heap.size 0 _ _ _ (heap_alloc_new wr (.cells #[.int .i64 p.1, .int .i64 p.2] 38))
        have z1 := cell_of_row _ wr.heap.size 1 _ _ _ (heap_alloc_new wr (.cells #[.int .i64 p.1, .int .i64 p.2] 38))
        simp only [List.getElem?_toArray, List.getElem?_cons_zero, List.getElem?_cons_succ] at z0 z1
        have H7 : Hid (IsSnd (wr.alloc (.cells #[.int .i64 p.1, .int .i64 p.2] 38)) g s) := Lib.hid (H6.out.below ((Below.refl _ wr).alloc (Nat.le_refl _) _) hgs)
        have R7 : Hid (IsRef (wr.alloc (.cells #[.int .i64 p.1, .int .i64 p.2] 38)) g2 (toRef s)) := Lib.hid (R6.out.below ((Below.refl _ wr).alloc (Nat.le_refl _) _) hgs2)
        have B7 : Hid (Below w.heap.size w (wr.alloc (.cells #[.int .i64 p.1, .int .i64 p.2] 38))) := Lib.hid (B6.out.alloc B6.out.size _)
        have HNE : Hid (wr.heap.size ≠ g) := Lib.hid (by omega)
        have HNE2 : Hid (wr.heap.size ≠ g2) := Lib.hid (by omega)
        clear hc0 hc1
        generalize wr.alloc (.cells #[.int .i64 p.1, .int .i64 p.2] 38) = w7 at *
        rw [← hG] at z0 z1 HNE HNE2 ⊢
        clear hG
        have Z0 := Lib.hid z0
        have Z1 := Lib.hid z1
        by_cases hv : p.2 < s.known ∨ 1099511627776 < p.2
        · have HV := Lib.hid hv
          clear hv
          go_wp2_with (fail)
          go_region_held3 (fun w' => w'.cell? ⟨G, 0, none⟩ = some (.int .i64 p.1) ∧ w'.cell? ⟨G, 1, none⟩ = some (.int .i64 p.2))
            (first | exact ⟨grown_cell HG9.out HNE2.out (grown_cell HG8.out HNE.out Z0.out), grown_cell HG9.out HNE2.out (grown_cell HG8.out HNE.out Z1.out)⟩ | exact ⟨grown_cell HG8.out HNE.out Z0.out, grown_cell HG8.out HNE.out Z1.out⟩ | exact ⟨Z0.out, Z1.out⟩ | go_keep)
            (first
            | (go_at_call 18; go_loud ((refine (senderOffer w7.drew g s p.2 (show IsSnd w7.drew g s from H7.out)).mono ?_; rw [if_pos HV.out, if_pos HV.out]; rintro e w8 ⟨rfl, hs8, hg8⟩; have HS8 := Lib.hid hs8; have HG8 : Hid (w7.grownBy w8 (some g)) := Lib.hid ((show w7.grownBy w7.drew (some g) from ⟨rfl, rfl, rfl, Nat.le_refl _, fun _ _ _ => rfl⟩).trans hg8); have R8 := Lib.hid (R7.out.other HG8.out HN12.out.symm); clear hs8 hg8)))
            | (go_at_call 19; go_loud ((refine (refOffer w8 g2 (toRef s) p.2 R8.out).mono ?_; rw [if_pos (show p.2 < (toRef s).known ∨ 1099511627776 < p.2 from HV.out), if_pos (show p.2 < (toRef s).known ∨ 1099511627776 < p.2 from HV.out)]; rintro e w9 ⟨rfl, hs9, hg9⟩; have HR9 := Lib.hid hs9; have HG9 := Lib.hid hg9; have HS9 := Lib.hid (HS8.out.other HG9.out HN12.out); clear hs9 hg9))))
          clear z0 z1
          have HS : Hid (IsSnd w9 g (s)) := Lib.hid (HS9.out)
          have HR : Hid (IsRef w9 g2 (toRef (s))) := Lib.hid (HR9.out)
          have HB : Hid (Below w.heap.size w w9) := Lib.hid (grown_to_below (grown_to_below B7.out hgw HG8.out) hgw2 HG9.out)
          have HI : Hid (Inv (s)) := Lib.hid (IV.out)
          have HI2 : Hid (Inv2 (s)) := Lib.hid (IV2.out)
          generalize s = S' at HS HR HI HI2
          have r5 : w9.cell? ⟨g2, 5, none⟩ = some (.int .i64 S'.pos) := HR.out.cell 5
          have r7 : w9.cell? ⟨g2, 7, none⟩ = some (.bool (S'.kind == 1)) := HR.out.cell 7
          have r9 : w9.cell? ⟨g2, 9, none⟩ = some (.int .i64 S'.left) := HR.out.cell 9
          have r10 : w9.cell? ⟨g2, 10, none⟩ = some (.int .i64 S'.tries) := HR.out.cell 10
          have HQ : Hid (∀ q, IsSnd (w9.drewN q) g S') := fun q => HS.out
          go_wp2_with (fail)
          go_quiet ((first
            | (go_at_call 28; go_loud (exact Calls.quiet_sym (senderAt _ g _ (HQ.out _))))
            | (go_at_call 29; go_loud (exact Calls.quiet_sym (senderFlying _ g _ (HQ.out _))))
            | (go_at_call 30; go_loud (exact Calls.quiet_sym (senderLeft _ g _ (HQ.out _))))
            | (go_at_call 31; go_loud (exact Calls.quiet_sym (senderTries _ g _ (HQ.out _))))))
          clear r5 r7 r9 r10
          go_wp2_with (fail)
          go_roundw
          case rel => exact ⟨j + 1, by omega, by go_num, S', HI.out, HI2.out, HQ.out _, HR.out, drawN_below HB.out _⟩
          case measure => simp [intOf]; omega
        · have HV := Lib.hid hv
          have hv1 : s.known ≤ p.2 := by omega
          have hv2 : p.2 ≤ 1099511627776 := by omega
          clear hv
          go_wp2_with (fail)
          go_region_held3 (fun w' => w'.cell? ⟨G, 0, none⟩ = some (.int .i64 p.1) ∧ w'.cell? ⟨G, 1, none⟩ = some (.int .i64 p.2))
            (first | exact ⟨grown_cell HG9.out HNE2.out (grown_cell HG8.out HNE.out Z0.out), grown_cell HG9.out HNE2.out (grown_cell HG8.out HNE.out Z1.out)⟩ | exact ⟨grown_cell HG8.out HNE.out Z0.out, grown_cell HG8.out HNE.out Z1.out⟩ | exact ⟨Z0.out, Z1.out⟩ | go_keep)
            (first
            | (go_at_call 18; go_loud ((refine (senderOffer w7.drew g s p.2 (show IsSnd w7.drew g s from H7.out)).mono ?_; rw [if_neg HV.out, if_neg HV.out]; rintro e w8 ⟨rfl, hs8, hg8⟩; have HS8 := Lib.hid hs8; have HG8 : Hid (w7.grownBy w8 (some g)) := Lib.hid ((show w7.grownBy w7.drew (some g) from ⟨rfl, rfl, rfl, Nat.le_refl _, fun _ _ _ => rfl⟩).trans hg8); have R8 := Lib.hid (R7.out.other HG8.out HN12.out.symm); clear hs8 hg8)))
            | (go_at_call 19; go_loud ((refine (refOffer w8 g2 (toRef s) p.2 R8.out).mono ?_; rw [if_neg (show ¬ (p.2 < (toRef s).known ∨ 1099511627776 < p.2) from HV.out), if_neg (show ¬ (p.2 < (toRef s).known ∨ 1099511627776 < p.2) from HV.out)]; rintro e w9 ⟨rfl, hs9, hg9⟩; have HR9 := Lib.hid hs9; have HG9 := Lib.hid hg9; have HS9 := Lib.hid (HS8.out.other HG9.out HN12.out); clear hs9 hg9))))
          clear z0 z1
          have HS : Hid (IsSnd w9 g ({ s with known := p.2 })) := Lib.hid (HS9.out)
          have HR : Hid (IsRef w9 g2 (toRef ({ s with known := p.2 }))) := Lib.hid (HR9.out)
          have HB : Hid (Below w.heap.size w w9) := Lib.hid (grown_to_below (grown_to_below B7.out hgw HG8.out) hgw2 HG9.out)
          have HI : Hid (Inv ({ s with known := p.2 })) := Lib.hid (offer_inv IV.out hv1 hv2)
          have HI2 : Hid (Inv2 ({ s with known := p.2 })) := Lib.hid (⟨IV2.out.k, IV2.out.z⟩)
          generalize { s with known := p.2 } = S' at HS HR HI HI2
          have r5 : w9.cell? ⟨g2, 5, none⟩ = some (.int .i64 S'.pos) := HR.out.cell 5
          have r7 : w9.cell? ⟨g2, 7, none⟩ = some (.bool (S'.kind == 1)) := HR.out.cell 7
          have r9 : w9.cell? ⟨g2, 9, none⟩ = some (.int .i64 S'.left) := HR.out.cell 9
          have r10 : w9.cell? ⟨g2, 10, none⟩ = some (.int .i64 S'.tries) := HR.out.cell 10
          have HQ : Hid (∀ q, IsSnd (w9.drewN q) g S') := fun q => HS.out
          go_wp2_with (fail)
          go_quiet ((first
            | (go_at_call 28; go_loud (exact Calls.quiet_sym (senderAt _ g _ (HQ.out _))))
            | (go_at_call 29; go_loud (exact Calls.quiet_sym (senderFlying _ g _ (HQ.out _))))
            | (go_at_call 30; go_loud (exact Calls.quiet_sym (senderLeft _ g _ (HQ.out _))))
            | (go_at_call 31; go_loud (exact Calls.quiet_sym (senderTries _ g _ (HQ.out _))))))
          clear r5 r7 r9 r10
          go_wp2_with (fail)
          go_roundw
          case rel => exact ⟨j + 1, by omega, by go_num, S', HI.out, HI2.out, HQ.out _, HR.out, drawN_below HB.out _⟩
          case measure => simp [intOf]; omega
      · by_cases hk1 : p.1 = 1
        · have k0 : (p.1 == (0 : Int)) = false := by rw [beq_eq_false_iff_ne]; exact hk0
          have k1 : (p.1 == (1 : Int)) = true := by rw [beq_iff_eq]; exact hk1
          clear hk0 hk1
          go_wp2_with (fail)
          obtain ⟨G, hG⟩ : ∃ G, G = wr.heap.size := ⟨_, rfl⟩
          have z0 := cell_of_row _ wr.heap.size 0 _ _ _ (heap_alloc_new wr (.cells #[.int .i64 p.1, .int .i64 p.2] 38))
          have z1 := cell_of_row _ wr.heap.size 1 _ _ _ (heap_alloc_new wr (.cells #[.int .i64 p.1, .int .i64 p.2] 38))
          simp only [List.getElem?_toArray, List.getElem?_cons_zero, List.getElem?_cons_succ] at z0 z1
          have H7 : Hid (IsSnd (wr.alloc (.cells #[.int .i64 p.1, .int .i64 p.2] 38)) g s) := Lib.hid (H6.out.below ((Below.refl _ wr).alloc (Nat.le_refl _) _) hgs)
          have R7 : Hid (IsRef (wr.alloc (.cells #[.int .i64 p.1, .int .i64 p.2] 38)) g2 (toRef s)) := Lib.hid (R6.out.below ((Below.refl _ wr).alloc (Nat.le_refl _) _) hgs2)
          have B7 : Hid (Below w.heap.size w (wr.alloc (.cells #[.int .i64 p.1, .int .i64 p.2] 38))) := Lib.hid (B6.out.alloc B6.out.size _)
          have HNE : Hid (wr.heap.size ≠ g) := Lib.hid (by omega)
          have HNE2 : Hid (wr.heap.size ≠ g2) := Lib.hid (by omega)
          clear hc0 hc1
          generalize wr.alloc (.cells #[.int .i64 p.1, .int .i64 p.2] 38) = w7 at *
          rw [← hG] at z0 z1 HNE HNE2 ⊢
          clear hG
          have Z0 := Lib.hid z0
          have Z1 := Lib.hid z1
          clear z0 z1
          by_cases hv : pollYes s
          · have hk0 : s.kind = 0 := hv.1
            have HFL : Hid ((toRef s).flying = false ∧ (toRef s).rests = false) := ⟨by show (s.kind == 1) = false; rw [hk0]; decide, by show (s.kind == 2) = false; rw [hk0]; decide⟩
            have HTR : Hid (toRef { s with kind := 1, left := s.timeout } = { toRef s with flying := true, left := s.timeout }) := by
              show toRef _ = _
              unfold toRef
              simp [hk0]
            clear hk0
            refine (senderPoll_yes w7 g s H7.out hv.1 hv.2.1 hv.2.2).mono ?_
            rintro e w8 ⟨rfl, hs8, hg8⟩
            have HS8 := Lib.hid hs8
            have HG8 := Lib.hid hg8
            have R8 := Lib.hid (R7.out.other hg8 HN12.out.symm)
            have HPI : Hid (Inv { s with kind := 1, left := s.timeout }) := Lib.hid (by have := pollS_inv IV.out; unfold pollS at this; rwa [if_pos hv] at this)
            have HPI2 : Hid (Inv2 { s with kind := 1, left := s.timeout }) := Lib.hid (by have := pollS_inv2 IV2.out; unfold pollS at this; rwa [if_pos hv] at this)
            clear hs8 hg8
            go_wp2_with (fail)
            refine (show Calls Try.prog 21 #[.pointer (some ⟨g2,0,none⟩)] w8 (RefRet (.tuple #[.int .i64 s.pos, .bool true]) g2 (toRef { s with kind := 1, left := s.timeout }) w8) from by rw [HTR.out]; exact refPoll_yes w8 g2 (toRef s) R8.out HFL.out.1 HFL.out.2 hv.2.2).mono ?_
            rintro e w9 ⟨rfl, hs9, hg9⟩
            have HR9 := Lib.hid hs9
            have HG9 := Lib.hid hg9
            have HS9 := Lib.hid (HS8.out.other hg9 HN12.out)
            clear hs9 hg9 hv
            have HS : Hid (IsSnd w9 g ({ s with kind := 1, left := s.timeout })) := Lib.hid (HS9.out)
            have HR : Hid (IsRef w9 g2 (toRef ({ s with kind := 1, left := s.timeout }))) := Lib.hid (HR9.out)
            have HB : Hid (Below w.heap.size w w9) := Lib.hid (grown_to_below (grown_to_below B7.out hgw HG8.out) hgw2 HG9.out)
            have HI : Hid (Inv ({ s with kind := 1, left := s.timeout })) := Lib.hid (HPI.out)
            have HI2 : Hid (Inv2 ({ s with kind := 1, left := s.timeout })) := Lib.hid (HPI2.out)
            generalize { s with kind := 1, left := s.timeout } = S' at HS HR HI HI2
            have r5 : w9.cell? ⟨g2, 5, none⟩ = some (.int .i64 S'.pos) := HR.out.cell 5
            have r7 : w9.cell? ⟨g2, 7, none⟩ = some (.bool (S'.kind == 1)) := HR.out.cell 7
            have r9 : w9.cell? ⟨g2, 9, none⟩ = some (.int .i64 S'.left) := HR.out.cell 9
            have r10 : w9.cell? ⟨g2, 10, none⟩ = some (.int .i64 S'.tries) := HR.out.cell 10
            have HQ : Hid (∀ q, IsSnd (w9.drewN q) g S') := fun q => HS.out
            go_wp2_with (fail)
            go_quiet ((first
              | (go_at_call 28; go_loud (exact Calls.quiet_sym (senderAt _ g _ (HQ.out _))))
              | (go_at_call 29; go_loud (exact Calls.quiet_sym (senderFlying _ g _ (HQ.out _))))
              | (go_at_call 30; go_loud (exact Calls.quiet_sym (senderLeft _ g _ (HQ.out _))))
              | (go_at_call 31; go_loud (exact Calls.quiet_sym (senderTries _ g _ (HQ.out _))))))
            clear r5 r7 r9 r10
            go_wp2_with (fail)
            go_roundw
            case rel => exact ⟨j + 1, by omega, by go_num, S', HI.out, HI2.out, HQ.out _, HR.out, drawN_below HB.out _⟩
            case measure => simp [intOf]; omega
          · refine (senderPoll w7 g s H7.out).mono ?_
            rw [if_neg hv, decide_eq_false hv, show pollS s = s from by unfold pollS; rw [if_neg hv]]
            rintro e w8 ⟨rfl, hs8, hg8⟩
            have HS8 := Lib.hid hs8
            have HG8 := Lib.hid hg8
            have R8 := Lib.hid (R7.out.other hg8 HN12.out.symm)
            have HN : Hid ((toRef s).flying = true ∨ (toRef s).rests = true ∨ (toRef s).known ≤ (toRef s).pos) := Lib.hid (by
              rcases IV2.out.k with h | h | h
              · have hz := IV2.out.z h
                refine .inr (.inr ?_)
                show s.known ≤ s.pos
                have : ¬ s.pos < s.known := fun hlt => hv ⟨h, hz, hlt⟩
                omega
              · exact .inl (by show (s.kind == 1) = true; simpa using h)
              · exact .inr (.inl (by show (s.kind == 2) = true; simpa using h)))
            clear hs8 hg8 hv
            go_wp2_with (fail)
            refine (refPoll_no w8 g2 (toRef s) R8.out HN.out).mono ?_
            rintro e w9 ⟨rfl, hs9, hg9⟩
            have HR9 := Lib.hid hs9
            have HG9 := Lib.hid hg9
            have HS9 := Lib.hid (HS8.out.other hg9 HN12.out)
            clear hs9 hg9
            have HS : Hid (IsSnd w9 g (s)) := Lib.hid (HS9.out)
            have HR : Hid (IsRef w9 g2 (toRef (s))) := Lib.hid (HR9.out)
            have HB : Hid (Below w.heap.size w w9) := Lib.hid (grown_to_below (grown_to_below B7.out hgw HG8.out) hgw2 HG9.out)
            have HI : Hid (Inv (s)) := Lib.hid (IV.out)
            have HI2 : Hid (Inv2 (s)) := Lib.hid (IV2.out)
            generalize s = S' at HS HR HI HI2
            have r5 : w9.cell? ⟨g2, 5, none⟩ = some (.int .i64 S'.pos) := HR.out.cell 5
            have r7 : w9.cell? ⟨g2, 7, none⟩ = some (.bool (S'.kind == 1)) := HR.out.cell 7
            have r9 : w9.cell? ⟨g2, 9, none⟩ = some (.int .i64 S'.left) := HR.out.cell 9
            have r10 : w9.cell? ⟨g2, 10, none⟩ = some (.int .i64 S'.tries) := HR.out.cell 10
            have HQ : Hid (∀ q, IsSnd (w9.drewN q) g S') := fun q => HS.out
            go_wp2_with (fail)
            go_quiet ((first
              | (go_at_call 28; go_loud (exact Calls.quiet_sym (senderAt _ g _ (HQ.out _))))
              | (go_at_call 29; go_loud (exact Calls.quiet_sym (senderFlying _ g _ (HQ.out _))))
              | (go_at_call 30; go_loud (exact Calls.quiet_sym (senderLeft _ g _ (HQ.out _))))
              | (go_at_call 31; go_loud (exact Calls.quiet_sym (senderTries _ g _ (HQ.out _))))))
            clear r5 r7 r9 r10
            go_wp2_with (fail)
            go_roundw
            case rel => exact ⟨j + 1, by omega, by go_num, S', HI.out, HI2.out, HQ.out _, HR.out, drawN_below HB.out _⟩
            case measure => simp [intOf]; omega
        · by_cases hk2 : p.1 = 2
          · have k0 : (p.1 == (0 : Int)) = false := by rw [beq_eq_false_iff_ne]; exact hk0
            have k1 : (p.1 == (1 : Int)) = false := by rw [beq_eq_false_iff_ne]; exact hk1
            have k2 : (p.1 == (2 : Int)) = true := by rw [beq_iff_eq]; exact hk2
            clear hk0 hk1 hk2
            go_wp2_with (fail)
            obtain ⟨G, hG⟩ : ∃ G, G = wr.heap.size := ⟨_, rfl⟩
            have z0 := cell_of_row _ wr.heap.size 0 _ _ _ (heap_alloc_new wr (.cells #[.int .i64 p.1, .int .i64 p.2] 38))
            have z1 := cell_of_row _ wr.heap.size 1 _ _ _ (heap_alloc_new wr (.cells #[.int .i64 p.1, .int .i64 p.2] 38))
            simp only [List.getElem?_toArray, List.getElem?_cons_zero, List.getElem?_cons_succ] at z0 z1
            have H7 : Hid (IsSnd (wr.alloc (.cells #[.int .i64 p.1, .int .i64 p.2] 38)) g s) := Lib.hid (H6.out.below ((Below.refl _ wr).alloc (Nat.le_refl _) _) hgs)
            have R7 : Hid (IsRef (wr.alloc (.cells #[.int .i64 p.1, .int .i64 p.2] 38)) g2 (toRef s)) := Lib.hid (R6.out.below ((Below.refl _ wr).alloc (Nat.le_refl _) _) hgs2)
            have B7 : Hid (Below w.heap.size w (wr.alloc (.cells #[.int .i64 p.1, .int .i64 p.2] 38))) := Lib.hid (B6.out.alloc B6.out.size _)
            have HNE : Hid (wr.heap.size ≠ g) := Lib.hid (by omega)
            have HNE2 : Hid (wr.heap.size ≠ g2) := Lib.hid (by omega)
            clear hc0 hc1
            generalize wr.alloc (.cells #[.int .i64 p.1, .int .i64 p.2] 38) = w7 at *
            rw [← hG] at z0 z1 HNE HNE2 ⊢
            clear hG
            have Z0 := Lib.hid z0
            have Z1 := Lib.hid z1
            have hv3 := IV.out.known
            have hv4 := IV.out.pos
            have hv5 := IV.out.le
            go_wp2_with (fail)
            go_region_held3 (fun w' => w'.cell? ⟨G, 0, none⟩ = some (.int .i64 p.1) ∧ w'.cell? ⟨G, 1, none⟩ = some (.int .i64 p.2))
              (first | exact ⟨grown_cell HG9.out HNE2.out (grown_cell HG8.out HNE.out Z0.out), grown_cell HG9.out HNE2.out (grown_cell HG8.out HNE.out Z1.out)⟩ | exact ⟨grown_cell HG8.out HNE.out Z0.out, grown_cell HG8.out HNE.out Z1.out⟩ | exact ⟨Z0.out, Z1.out⟩ | go_keep)
              (first
              | (go_at_call 22; go_loud ((refine (senderAnswer_yes w7.drew g s (show IsSnd w7.drew g s from H7.out) (by omega)).mono ?_; rintro e w8 ⟨rfl, hs8, hg8⟩; have HS8 := Lib.hid hs8; have HG8 : Hid (w7.grownBy w8 (some g)) := Lib.hid ((show w7.grownBy w7.drew (some g) from ⟨rfl, rfl, rfl, Nat.le_refl _, fun _ _ _ => rfl⟩).trans hg8); have R8 := Lib.hid (R7.out.other HG8.out HN12.out.symm); clear hs8 hg8)))
              | (go_at_call 23; go_loud ((refine (refAnswer w8 g2 (toRef s) true R8.out (toRef_ok IV.out.ok) (show 0 ≤ s.pos ∧ s.pos ≤ 1099511627776 by omega)).mono ?_; rw [show ((toRef s).flying && true) = (s.kind == 1) from Bool.and_true _, ← toRef_answer s true IV.out.ok]; rintro e w9 ⟨rfl, hs9, hg9⟩; have HR9 := Lib.hid hs9; have HG9 := Lib.hid hg9; have HS9 := Lib.hid (HS8.out.other HG9.out HN12.out); clear hs9 hg9))))
            clear z0 z1
            have HS : Hid (IsSnd w9 g (answerS s true)) := Lib.hid (HS9.out)
            have HR : Hid (IsRef w9 g2 (toRef (answerS s true))) := Lib.hid (HR9.out)
            have HB : Hid (Below w.heap.size w w9) := Lib.hid (grown_to_below (grown_to_below B7.out hgw HG8.out) hgw2 HG9.out)
            have HI : Hid (Inv (answerS s true)) := Lib.hid (answerS_inv IV.out true)
            have HI2 : Hid (Inv2 (answerS s true)) := Lib.hid (answerS_inv2 IV2.out true)
            generalize answerS s true = S' at HS HR HI HI2
            have r5 : w9.cell? ⟨g2, 5, none⟩ = some (.int .i64 S'.pos) := HR.out.cell 5
            have r7 : w9.cell? ⟨g2, 7, none⟩ = some (.bool (S'.kind == 1)) := HR.out.cell 7
            have r9 : w9.cell? ⟨g2, 9, none⟩ = some (.int .i64 S'.left) := HR.out.cell 9
            have r10 : w9.cell? ⟨g2, 10, none⟩ = some (.int .i64 S'.tries) := HR.out.cell 10
            have HQ : Hid (∀ q, IsSnd (w9.drewN q) g S') := fun q => HS.out
            go_wp2_with (fail)
            go_quiet ((first
              | (go_at_call 28; go_loud (exact Calls.quiet_sym (senderAt _ g _ (HQ.out _))))
              | (go_at_call 29; go_loud (exact Calls.quiet_sym (senderFlying _ g _ (HQ.out _))))
              | (go_at_call 30; go_loud (exact Calls.quiet_sym (senderLeft _ g _ (HQ.out _))))
              | (go_at_call 31; go_loud (exact Calls.quiet_sym (senderTries _ g _ (HQ.out _))))))
            clear r5 r7 r9 r10
            go_wp2_with (fail)
            go_roundw
            case rel => exact ⟨j + 1, by omega, by go_num, S', HI.out, HI2.out, HQ.out _, HR.out, drawN_below HB.out _⟩
            case measure => simp [intOf]; omega
          · by_cases hk3 : p.1 = 3
            · have k0 : (p.1 == (0 : Int)) = false := by rw [beq_eq_false_iff_ne]; exact hk0
              have k1 : (p.1 == (1 : Int)) = false := by rw [beq_eq_false_iff_ne]; exact hk1
              have k2 : (p.1 == (2 : Int)) = false := by rw [beq_eq_false_iff_ne]; exact hk2
              have k3 : (p.1 == (3 : Int)) = true := by rw [beq_iff_eq]; exact hk3
              clear hk0 hk1 hk2 hk3
              go_wp2_with (fail)
              obtain ⟨G, hG⟩ : ∃ G, G = wr.heap.size := ⟨_, rfl⟩
              have z0 := cell_of_row _ wr.heap.size 0 _ _ _ (heap_alloc_new wr (.cells #[.int .i64 p.1, .int .i64 p.2] 38))
              have z1 := cell_of_row _ wr.heap.size 1 _ _ _ (heap_alloc_new wr (.cells #[.int .i64 p.1, .int .i64 p.2] 38))
              simp only [List.getElem?_toArray, List.getElem?_cons_zero, List.getElem?_cons_succ] at z0 z1
              have H7 : Hid (IsSnd (wr.alloc (.cells #[.int .i64 p.1, .int .i64 p.2] 38)) g s) := Lib.hid (H6.out.below ((Below.refl _ wr).alloc (Nat.le_refl _) _) hgs)
              have R7 : Hid (IsRef (wr.alloc (.cells #[.int .i64 p.1, .int .i64 p.2] 38)) g2 (toRef s)) := Lib.hid (R6.out.below ((Below.refl _ wr).alloc (Nat.le_refl _) _) hgs2)
              have B7 : Hid (Below w.heap.size w (wr.alloc (.cells #[.int .i64 p.1, .int .i64 p.2] 38))) := Lib.hid (B6.out.alloc B6.out.size _)
              have HNE : Hid (wr.heap.size ≠ g) := Lib.hid (by omega)
              have HNE2 : Hid (wr.heap.size ≠ g2) := Lib.hid (by omega)
              clear hc0 hc1
              generalize wr.alloc (.cells #[.int .i64 p.1, .int .i64 p.2] 38) = w7 at *
              rw [← hG] at z0 z1 HNE HNE2 ⊢
              clear hG
              have Z0 := Lib.hid z0
              have Z1 := Lib.hid z1
              have hv3 := IV.out.known
              have hv4 := IV.out.pos
              have hv5 := IV.out.le
              go_wp2_with (fail)
              go_region_held3 (fun w' => w'.cell? ⟨G, 0, none⟩ = some (.int .i64 p.1) ∧ w'.cell? ⟨G, 1, none⟩ = some (.int .i64 p.2))
                (first | exact ⟨grown_cell HG9.out HNE2.out (grown_cell HG8.out HNE.out Z0.out), grown_cell HG9.out HNE2.out (grown_cell HG8.out HNE.out Z1.out)⟩ | exact ⟨grown_cell HG8.out HNE.out Z0.out, grown_cell HG8.out HNE.out Z1.out⟩ | exact ⟨Z0.out, Z1.out⟩ | go_keep)
                (first
                | (go_at_call 22; go_loud ((refine (senderAnswer_no w7.drew g s (show IsSnd w7.drew g s from H7.out) IV.out.ok).mono ?_; rintro e w8 ⟨rfl, hs8, hg8⟩; have HS8 := Lib.hid hs8; have HG8 : Hid (w7.grownBy w8 (some g)) := Lib.hid ((show w7.grownBy w7.drew (some g) from ⟨rfl, rfl, rfl, Nat.le_refl _, fun _ _ _ => rfl⟩).trans hg8); have R8 := Lib.hid (R7.out.other HG8.out HN12.out.symm); clear hs8 hg8)))
                | (go_at_call 23; go_loud ((refine (refAnswer w8 g2 (toRef s) false R8.out (toRef_ok IV.out.ok) (show 0 ≤ s.pos ∧ s.pos ≤ 1099511627776 by omega)).mono ?_; rw [show ((toRef s).flying && false) = false from Bool.and_false _, ← toRef_answer s false IV.out.ok]; rintro e w9 ⟨rfl, hs9, hg9⟩; have HR9 := Lib.hid hs9; have HG9 := Lib.hid hg9; have HS9 := Lib.hid (HS8.out.other HG9.out HN12.out); clear hs9 hg9))))
              clear z0 z1
              have HS : Hid (IsSnd w9 g (answerS s false)) := Lib.hid (HS9.out)
              have HR : Hid (IsRef w9 g2 (toRef (answerS s false))) := Lib.hid (HR9.out)
              have HB : Hid (Below w.heap.size w w9) := Lib.hid (grown_to_below (grown_to_below B7.out hgw HG8.out) hgw2 HG9.out)
              have HI : Hid (Inv (answerS s false)) := Lib.hid (answerS_inv IV.out false)
              have HI2 : Hid (Inv2 (answerS s false)) := Lib.hid (answerS_inv2 IV2.out false)
              generalize answerS s false = S' at HS HR HI HI2
              have r5 : w9.cell? ⟨g2, 5, none⟩ = some (.int .i64 S'.pos) := HR.out.cell 5
              have r7 : w9.cell? ⟨g2, 7, none⟩ = some (.bool (S'.kind == 1)) := HR.out.cell 7
              have r9 : w9.cell? ⟨g2, 9, none⟩ = some (.int .i64 S'.left) := HR.out.cell 9
              have r10 : w9.cell? ⟨g2, 10, none⟩ = some (.int .i64 S'.tries) := HR.out.cell 10
              have HQ : Hid (∀ q, IsSnd (w9.drewN q) g S') := fun q => HS.out
              go_wp2_with (fail)
              go_quiet ((first
                | (go_at_call 28; go_loud (exact Calls.quiet_sym (senderAt _ g _ (HQ.out _))))
                | (go_at_call 29; go_loud (exact Calls.quiet_sym (senderFlying _ g _ (HQ.out _))))
                | (go_at_call 30; go_loud (exact Calls.quiet_sym (senderLeft _ g _ (HQ.out _))))
                | (go_at_call 31; go_loud (exact Calls.quiet_sym (senderTries _ g _ (HQ.out _))))))
              clear r5 r7 r9 r10
              go_wp2_with (fail)
              go_roundw
              case rel => exact ⟨j + 1, by omega, by go_num, S', HI.out, HI2.out, HQ.out _, HR.out, drawN_below HB.out _⟩
              case measure => simp [intOf]; omega
            · by_cases hk4 : p.1 = 4
              · have k0 : (p.1 == (0 : Int)) = false := by rw [beq_eq_false_iff_ne]; exact hk0
                have k1 : (p.1 == (1 : Int)) = false := by rw [beq_eq_false_iff_ne]; exact hk1
                have k2 : (p.1 == (2 : Int)) = false := by rw [beq_eq_false_iff_ne]; exact hk2
                have k3 : (p.1 == (3 : Int)) = false := by rw [beq_eq_false_iff_ne]; exact hk3
                have k4 : (p.1 == (4 : Int)) = true := by rw [beq_iff_eq]; exact hk4
                clear hk0 hk1 hk2 hk3 hk4
                go_wp2_with (fail)
                obtain ⟨G, hG⟩ : ∃ G, G = wr.heap.size := ⟨_, rfl⟩
                have z0 := cell_of_row _ wr.heap.size 0 _ _ _ (heap_alloc_new wr (.cells #[.int .i64 p.1, .int .i64 p.2] 38))
                have z1 := cell_of_row _ wr.heap.size 1 _ _ _ (heap_alloc_new wr (.cells #[.int .i64 p.1, .int .i64 p.2] 38))
                simp only [List.getElem?_toArray, List.getElem?_cons_zero, List.getElem?_cons_succ] at z0 z1
                have H7 : Hid (IsSnd (wr.alloc (.cells #[.int .i64 p.1, .int .i64 p.2] 38)) g s) := Lib.hid (H6.out.below ((Below.refl _ wr).alloc (Nat.le_refl _) _) hgs)
                have R7 : Hid (IsRef (wr.alloc (.cells #[.int .i64 p.1, .int .i64 p.2] 38)) g2 (toRef s)) := Lib.hid (R6.out.below ((Below.refl _ wr).alloc (Nat.le_refl _) _) hgs2)
                have B7 : Hid (Below w.heap.size w (wr.alloc (.cells #[.int .i64 p.1, .int .i64 p.2] 38))) := Lib.hid (B6.out.alloc B6.out.size _)
                have HNE : Hid (wr.heap.size ≠ g) := Lib.hid (by omega)
                have HNE2 : Hid (wr.heap.size ≠ g2) := Lib.hid (by omega)
                clear hc0 hc1
                generalize wr.alloc (.cells #[.int .i64 p.1, .int .i64 p.2] 38) = w7 at *
                rw [← hG] at z0 z1 HNE HNE2 ⊢
                clear hG
                have Z0 := Lib.hid z0
                have Z1 := Lib.hid z1
                by_cases hv : p.2 < 0
                · go_wp2_with (fail)
                  go_region_held3 (fun w' => w'.cell? ⟨G, 0, none⟩ = some (.int .i64 p.1) ∧ w'.cell? ⟨G, 1, none⟩ = some (.int .i64 p.2))
                    (first | exact ⟨grown_cell HG9.out HNE2.out (grown_cell HG8.out HNE.out Z0.out), grown_cell HG9.out HNE2.out (grown_cell HG8.out HNE.out Z1.out)⟩ | exact ⟨grown_cell HG8.out HNE.out Z0.out, grown_cell HG8.out HNE.out Z1.out⟩ | exact ⟨Z0.out, Z1.out⟩ | go_keep)
                    (first
                    | (go_at_call 24; go_loud ((refine (senderTick_neg w7.drew g s p.2 (show IsSnd w7.drew g s from H7.out) hv).mono ?_; rintro e w8 ⟨rfl, hs8, hg8⟩; have HS8 := Lib.hid hs8; have HG8 : Hid (w7.grownBy w8 (some g)) := Lib.hid ((show w7.grownBy w7.drew (some g) from ⟨rfl, rfl, rfl, Nat.le_refl _, fun _ _ _ => rfl⟩).trans hg8); have R8 := Lib.hid (R7.out.other HG8.out HN12.out.symm); clear hs8 hg8)))
                    | (go_at_call 25; go_loud ((refine (refTick_neg w8 g2 (toRef s) p.2 R8.out hv).mono ?_; rintro e w9 ⟨rfl, hs9, hg9⟩; have HR9 := Lib.hid hs9; have HG9 := Lib.hid hg9; have HS9 := Lib.hid (HS8.out.other HG9.out HN12.out); clear hs9 hg9))))
                  clear z0 z1
                  have HS : Hid (IsSnd w9 g (s)) := Lib.hid (HS9.out)
                  have HR : Hid (IsRef w9 g2 (toRef (s))) := Lib.hid (HR9.out)
                  have HB : Hid (Below w.heap.size w w9) := Lib.hid (grown_to_below (grown_to_below B7.out hgw HG8.out) hgw2 HG9.out)
                  have HI : Hid (Inv (s)) := Lib.hid (IV.out)
                  have HI2 : Hid (Inv2 (s)) := Lib.hid (IV2.out)
                  generalize s = S' at HS HR HI HI2
                  have r5 : w9.cell? ⟨g2, 5, none⟩ = some (.int .i64 S'.pos) := HR.out.cell 5
                  have r7 : w9.cell? ⟨g2, 7, none⟩ = some (.bool (S'.kind == 1)) := HR.out.cell 7
                  have r9 : w9.cell? ⟨g2, 9, none⟩ = some (.int .i64 S'.left) := HR.out.cell 9
                  have r10 : w9.cell? ⟨g2, 10, none⟩ = some (.int .i64 S'.tries) := HR.out.cell 10
                  have HQ : Hid (∀ q, IsSnd (w9.drewN q) g S') := fun q => HS.out
                  go_wp2_with (fail)
                  go_quiet ((first
                    | (go_at_call 28; go_loud (exact Calls.quiet_sym (senderAt _ g _ (HQ.out _))))
                    | (go_at_call 29; go_loud (exact Calls.quiet_sym (senderFlying _ g _ (HQ.out _))))
                    | (go_at_call 30; go_loud (exact Calls.quiet_sym (senderLeft _ g _ (HQ.out _))))
                    | (go_at_call 31; go_loud (exact Calls.quiet_sym (senderTries _ g _ (HQ.out _))))))
                  clear r5 r7 r9 r10
                  go_wp2_with (fail)
                  go_roundw
                  case rel => exact ⟨j + 1, by omega, by go_num, S', HI.out, HI2.out, HQ.out _, HR.out, drawN_below HB.out _⟩
                  case measure => simp [intOf]; omega
                · have hv0 : 0 ≤ p.2 := by omega
                  clear hv
                  go_wp2_with (fail)
                  go_region_held3 (fun w' => w'.cell? ⟨G, 0, none⟩ = some (.int .i64 p.1) ∧ w'.cell? ⟨G, 1, none⟩ = some (.int .i64 p.2))
                    (first | exact ⟨grown_cell HG9.out HNE2.out (grown_cell HG8.out HNE.out Z0.out), grown_cell HG9.out HNE2.out (grown_cell HG8.out HNE.out Z1.out)⟩ | exact ⟨grown_cell HG8.out HNE.out Z0.out, grown_cell HG8.out HNE.out Z1.out⟩ | exact ⟨Z0.out, Z1.out⟩ | go_keep)
                    (first
                    | (go_at_call 24; go_loud ((refine (senderTick w7.drew g s p.2 (show IsSnd w7.drew g s from H7.out) hv0 hpb.2 IV.out.left IV.out.ok).mono ?_; rintro e w8 ⟨rfl, hs8, hg8⟩; have HS8 := Lib.hid hs8; have HG8 : Hid (w7.grownBy w8 (some g)) := Lib.hid ((show w7.grownBy w7.drew (some g) from ⟨rfl, rfl, rfl, Nat.le_refl _, fun _ _ _ => rfl⟩).trans hg8); have R8 := Lib.hid (R7.out.other HG8.out HN12.out.symm); clear hs8 hg8)))
                    | (go_at_call 25; go_loud ((refine (refTick w8 g2 (toRef s) p.2 R8.out hv0 hpb.2 IV.out.left (toRef_ok IV.out.ok)).mono ?_; rw [← toRef_tick s p.2 hv0 IV.out IV2.out]; rintro e w9 ⟨rfl, hs9, hg9⟩; have HR9 := Lib.hid hs9; have HG9 := Lib.hid hg9; have HS9 := Lib.hid (HS8.out.other HG9.out HN12.out); clear hs9 hg9))))
                  clear z0 z1
                  have HS : Hid (IsSnd w9 g (tickS s p.2)) := Lib.hid (HS9.out)
                  have HR : Hid (IsRef w9 g2 (toRef (tickS s p.2))) := Lib.hid (HR9.out)
                  have HB : Hid (Below w.heap.size w w9) := Lib.hid (grown_to_below (grown_to_below B7.out hgw HG8.out) hgw2 HG9.out)
                  have HI : Hid (Inv (tickS s p.2)) := Lib.hid (tickS_inv IV.out hv0)
                  have HI2 : Hid (Inv2 (tickS s p.2)) := Lib.hid (tickS_inv2 IV2.out p.2)
                  generalize tickS s p.2 = S' at HS HR HI HI2
                  have r5 : w9.cell? ⟨g2, 5, none⟩ = some (.int .i64 S'.pos) := HR.out.cell 5
                  have r7 : w9.cell? ⟨g2, 7, none⟩ = some (.bool (S'.kind == 1)) := HR.out.cell 7
                  have r9 : w9.cell? ⟨g2, 9, none⟩ = some (.int .i64 S'.left) := HR.out.cell 9
                  have r10 : w9.cell? ⟨g2, 10, none⟩ = some (.int .i64 S'.tries) := HR.out.cell 10
                  have HQ : Hid (∀ q, IsSnd (w9.drewN q) g S') := fun q => HS.out
                  go_wp2_with (fail)
                  go_quiet ((first
                    | (go_at_call 28; go_loud (exact Calls.quiet_sym (senderAt _ g _ (HQ.out _))))
                    | (go_at_call 29; go_loud (exact Calls.quiet_sym (senderFlying _ g _ (HQ.out _))))
                    | (go_at_call 30; go_loud (exact Calls.quiet_sym (senderLeft _ g _ (HQ.out _))))
                    | (go_at_call 31; go_loud (exact Calls.quiet_sym (senderTries _ g _ (HQ.out _))))))
                  clear r5 r7 r9 r10
                  go_wp2_with (fail)
                  go_roundw
                  case rel => exact ⟨j + 1, by omega, by go_num, S', HI.out, HI2.out, HQ.out _, HR.out, drawN_below HB.out _⟩
                  case measure => simp [intOf]; omega
              · by_cases hk5 : p.1 = 5
                · have k0 : (p.1 == (0 : Int)) = false := by rw [beq_eq_false_iff_ne]; exact hk0
                  have k1 : (p.1 == (1 : Int)) = false := by rw [beq_eq_false_iff_ne]; exact hk1
                  have k2 : (p.1 == (2 : Int)) = false := by rw [beq_eq_false_iff_ne]; exact hk2
                  have k3 : (p.1 == (3 : Int)) = false := by rw [beq_eq_false_iff_ne]; exact hk3
                  have k4 : (p.1 == (4 : Int)) = false := by rw [beq_eq_false_iff_ne]; exact hk4
                  have k5 : (p.1 == (5 : Int)) = true := by rw [beq_iff_eq]; exact hk5
                  clear hk0 hk1 hk2 hk3 hk4 hk5
                  go_wp2_with (fail)
                  obtain ⟨G, hG⟩ : ∃ G, G = wr.heap.size := ⟨_, rfl⟩
                  have z0 := cell_of_row _ wr.heap.size 0 _ _ _ (heap_alloc_new wr (.cells #[.int .i64 p.1, .int .i64 p.2] 38))
                  have z1 := cell_of_row _ wr.heap.size 1 _ _ _ (heap_alloc_new wr (.cells #[.int .i64 p.1, .int .i64 p.2] 38))
                  simp only [List.getElem?_toArray, List.getElem?_cons_zero, List.getElem?_cons_succ] at z0 z1
                  have H7 : Hid (IsSnd (wr.alloc (.cells #[.int .i64 p.1, .int .i64 p.2] 38)) g s) := Lib.hid (H6.out.below ((Below.refl _ wr).alloc (Nat.le_refl _) _) hgs)
                  have R7 : Hid (IsRef (wr.alloc (.cells #[.int .i64 p.1, .int .i64 p.2] 38)) g2 (toRef s)) := Lib.hid (R6.out.below ((Below.refl _ wr).alloc (Nat.le_refl _) _) hgs2)
                  have B7 : Hid (Below w.heap.size w (wr.alloc (.cells #[.int .i64 p.1, .int .i64 p.2] 38))) := Lib.hid (B6.out.alloc B6.out.size _)
                  have HNE : Hid (wr.heap.size ≠ g) := Lib.hid (by omega)
                  have HNE2 : Hid (wr.heap.size ≠ g2) := Lib.hid (by omega)
                  clear hc0 hc1
                  generalize wr.alloc (.cells #[.int .i64 p.1, .int .i64 p.2] 38) = w7 at *
                  rw [← hG] at z0 z1 HNE HNE2 ⊢
                  clear hG
                  have Z0 := Lib.hid z0
                  have Z1 := Lib.hid z1
                  clear z0 z1
                  by_cases hv : s.kind = 1
                  · refine (senderDrop w7 g s H7.out IV.out.ok).mono ?_
                    rw [if_pos hv]
                    rintro e w8 ⟨rfl, hs8, hg8⟩
                    have HS8 := Lib.hid hs8
                    have HG8 := Lib.hid hg8
                    have R8 := Lib.hid (R7.out.other hg8 HN12.out.symm)
                    clear hs8 hg8
                    go_wp2_with (fail)
                    refine (refDrop w8 g2 (toRef s) R8.out (toRef_ok IV.out.ok)).mono ?_
                    rw [if_pos (show (toRef s).flying = true from by show (s.kind == 1) = true; simpa using hv), ← toRef_fail s IV.out.ok]
                    rintro e w9 ⟨rfl, hs9, hg9⟩
                    have HR9 := Lib.hid hs9
                    have HG9 := Lib.hid hg9
                    have HS9 := Lib.hid (HS8.out.other hg9 HN12.out)
                    clear hs9 hg9 hv
                    have HS : Hid (IsSnd w9 g (failS s)) := Lib.hid (HS9.out)
                    have HR : Hid (IsRef w9 g2 (toRef (failS s))) := Lib.hid (HR9.out)
                    have HB : Hid (Below w.heap.size w w9) := Lib.hid (grown_to_below (grown_to_below B7.out hgw HG8.out) hgw2 HG9.out)
                    have HI : Hid (Inv (failS s)) := Lib.hid (failS_inv IV.out)
                    have HI2 : Hid (Inv2 (failS s)) := Lib.hid (failS_inv2 s)
                    generalize failS s = S' at HS HR HI HI2
                    have r5 : w9.cell? ⟨g2, 5, none⟩ = some (.int .i64 S'.pos) := HR.out.cell 5
                    have r7 : w9.cell? ⟨g2, 7, none⟩ = some (.bool (S'.kind == 1)) := HR.out.cell 7
                    have r9 : w9.cell? ⟨g2, 9, none⟩ = some (.int .i64 S'.left) := HR.out.cell 9
                    have r10 : w9.cell? ⟨g2, 10, none⟩ = some (.int .i64 S'.tries) := HR.out.cell 10
                    have HQ : Hid (∀ q, IsSnd (w9.drewN q) g S') := fun q => HS.out
                    go_wp2_with (fail)
                    go_quiet ((first
                      | (go_at_call 28; go_loud (exact Calls.quiet_sym (senderAt _ g _ (HQ.out _))))
                      | (go_at_call 29; go_loud (exact Calls.quiet_sym (senderFlying _ g _ (HQ.out _))))
                      | (go_at_call 30; go_loud (exact Calls.quiet_sym (senderLeft _ g _ (HQ.out _))))
                      | (go_at_call 31; go_loud (exact Calls.quiet_sym (senderTries _ g _ (HQ.out _))))))
                    clear r5 r7 r9 r10
                    go_wp2_with (fail)
                    go_roundw
                    case rel => exact ⟨j + 1, by omega, by go_num, S', HI.out, HI2.out, HQ.out _, HR.out, drawN_below HB.out _⟩
                    case measure => simp [intOf]; omega
                  · refine (senderDrop w7 g s H7.out IV.out.ok).mono ?_
                    rw [if_neg hv]
                    rintro e w8 ⟨rfl, hs8, hg8⟩
                    have HS8 := Lib.hid hs8
                    have HG8 := Lib.hid hg8
                    have R8 := Lib.hid (R7.out.other hg8 HN12.out.symm)
                    clear hs8 hg8
                    go_wp2_with (fail)
                    refine (refDrop w8 g2 (toRef s) R8.out (toRef_ok IV.out.ok)).mono ?_
                    rw [if_neg (show ¬ (toRef s).flying = true from by show ¬ (s.kind == 1) = true; simpa using hv)]
                    rintro e w9 ⟨rfl, hs9, hg9⟩
                    have HR9 := Lib.hid hs9
                    have HG9 := Lib.hid hg9
                    have HS9 := Lib.hid (HS8.out.other hg9 HN12.out)
                    clear hs9 hg9 hv
                    have HS : Hid (IsSnd w9 g (s)) := Lib.hid (HS9.out)
                    have HR : Hid (IsRef w9 g2 (toRef (s))) := Lib.hid (HR9.out)
                    have HB : Hid (Below w.heap.size w w9) := Lib.hid (grown_to_below (grown_to_below B7.out hgw HG8.out) hgw2 HG9.out)
                    have HI : Hid (Inv (s)) := Lib.hid (IV.out)
                    have HI2 : Hid (Inv2 (s)) := Lib.hid (IV2.out)
                    generalize s = S' at HS HR HI HI2
                    have r5 : w9.cell? ⟨g2, 5, none⟩ = some (.int .i64 S'.pos) := HR.out.cell 5
                    have r7 : w9.cell? ⟨g2, 7, none⟩ = some (.bool (S'.kind == 1)) := HR.out.cell 7
                    have r9 : w9.cell? ⟨g2, 9, none⟩ = some (.int .i64 S'.left) := HR.out.cell 9
                    have r10 : w9.cell? ⟨g2, 10, none⟩ = some (.int .i64 S'.tries) := HR.out.cell 10
                    have HQ : Hid (∀ q, IsSnd (w9.drewN q) g S') := fun q => HS.out
                    go_wp2_with (fail)
                    go_quiet ((first
                      | (go_at_call 28; go_loud (exact Calls.quiet_sym (senderAt _ g _ (HQ.out _))))
                      | (go_at_call 29; go_loud (exact Calls.quiet_sym (senderFlying _ g _ (HQ.out _))))
                      | (go_at_call 30; go_loud (exact Calls.quiet_sym (senderLeft _ g _ (HQ.out _))))
                      | (go_at_call 31; go_loud (exact Calls.quiet_sym (senderTries _ g _ (HQ.out _))))))
                    clear r5 r7 r9 r10
                    go_wp2_with (fail)
                    go_roundw
                    case rel => exact ⟨j + 1, by omega, by go_num, S', HI.out, HI2.out, HQ.out _, HR.out, drawN_below HB.out _⟩
                    case measure => simp [intOf]; omega
                · have k0 : (p.1 == (0 : Int)) = false := by rw [beq_eq_false_iff_ne]; exact hk0
                  have k1 : (p.1 == (1 : Int)) = false := by rw [beq_eq_false_iff_ne]; exact hk1
                  have k2 : (p.1 == (2 : Int)) = false := by rw [beq_eq_false_iff_ne]; exact hk2
                  have k3 : (p.1 == (3 : Int)) = false := by rw [beq_eq_false_iff_ne]; exact hk3
                  have k4 : (p.1 == (4 : Int)) = false := by rw [beq_eq_false_iff_ne]; exact hk4
                  have k5 : (p.1 == (5 : Int)) = false := by rw [beq_eq_false_iff_ne]; exact hk5
                  clear hk0 hk1 hk2 hk3 hk4 hk5
                  go_wp2_with (fail)
                  obtain ⟨G, hG⟩ : ∃ G, G = wr.heap.size := ⟨_, rfl⟩
                  have z0 := cell_of_row _ wr.heap.size 0 _ _ _ (heap_alloc_new wr (.cells #[.int .i64 p.1, .int .i64 p.2] 38))
                  have z1 := cell_of_row _ wr.heap.size 1 _ _ _ (heap_alloc_new wr (.cells #[.int .i64 p.1, .int .i64 p.2] 38))
                  simp only [List.getElem?_toArray, List.getElem?_cons_zero, List.getElem?_cons_succ] at z0 z1
                  have H7 : Hid (IsSnd (wr.alloc (.cells #[.int .i64 p.1, .int .i64 p.2] 38)) g s) := Lib.hid (H6.out.below ((Below.refl _ wr).alloc (Nat.le_refl _) _) hgs)
                  have R7 : Hid (IsRef (wr.alloc (.cells #[.int .i64 p.1, .int .i64 p.2] 38)) g2 (toRef s)) := Lib.hid (R6.out.below ((Below.refl _ wr).alloc (Nat.le_refl _) _) hgs2)
                  have B7 : Hid (Below w.heap.size w (wr.alloc (.cells #[.int .i64 p.1, .int .i64 p.2] 38))) := Lib.hid (B6.out.alloc B6.out.size _)
                  have HNE : Hid (wr.heap.size ≠ g) := Lib.hid (by omega)
                  have HNE2 : Hid (wr.heap.size ≠ g2) := Lib.hid (by omega)
                  clear hc0 hc1
                  generalize wr.alloc (.cells #[.int .i64 p.1, .int .i64 p.2] 38) = w7 at *
                  rw [← hG] at z0 z1 HNE HNE2 ⊢
                  clear hG
                  have Z0 := Lib.hid z0
                  have Z1 := Lib.hid z1
                  clear z0 z1
                  have HS : Hid (IsSnd w7 g (s)) := Lib.hid (H7.out)
                  have HR : Hid (IsRef w7 g2 (toRef (s))) := Lib.hid (R7.out)
                  have HB : Hid (Below w.heap.size w w7) := Lib.hid (B7.out)
                  have HI : Hid (Inv (s)) := Lib.hid (IV.out)
                  have HI2 : Hid (Inv2 (s)) := Lib.hid (IV2.out)
                  generalize s = S' at HS HR HI HI2
                  have r5 : w7.cell? ⟨g2, 5, none⟩ = some (.int .i64 S'.pos) := HR.out.cell 5
                  have r7 : w7.cell? ⟨g2, 7, none⟩ = some (.bool (S'.kind == 1)) := HR.out.cell 7
                  have r9 : w7.cell? ⟨g2, 9, none⟩ = some (.int .i64 S'.left) := HR.out.cell 9
                  have r10 : w7.cell? ⟨g2, 10, none⟩ = some (.int .i64 S'.tries) := HR.out.cell 10
                  have HQ : Hid (∀ q, IsSnd (w7.drewN q) g S') := fun q => HS.out
                  go_quiet ((first
                    | (go_at_call 28; go_loud (exact Calls.quiet_sym (senderAt _ g _ (HQ.out _))))
                    | (go_at_call 29; go_loud (exact Calls.quiet_sym (senderFlying _ g _ (HQ.out _))))
                    | (go_at_call 30; go_loud (exact Calls.quiet_sym (senderLeft _ g _ (HQ.out _))))
                    | (go_at_call 31; go_loud (exact Calls.quiet_sym (senderTries _ g _ (HQ.out _))))))
                  clear r5 r7 r9 r10
                  go_wp2_with (fail)
                  go_roundw
                  case rel => exact ⟨j + 1, by omega, by go_num, S', HI.out, HI2.out, HQ.out _, HR.out, drawN_below HB.out _⟩
                  case measure => simp [intOf]; omega
    · go_wp2
      go_ret
      exact ⟨rfl, B6.out⟩

set_option maxRecDepth 100000 in
set_option maxHeartbeats 4000000 in
theorem senderActs_long (a b c : Int) (bits : Nat) (A : Option Addr) (n cp : Nat) (w : World) (hn : 300 < n) :
    Calls Try.prog 3 #[.agg #[.int .i64 a, .int .i64 b, .int .i64 c], .int .u64 (bits : Int), .slice A n cp] w (True_ w) := by
  have ra := kOf_range a
  have rb := kOf_range b
  have rc := kOf_range c
  have cc := fun W => configAny a b c bits W
  unfold cfgOf at cc
  generalize kOf a = ba at *
  generalize kOf b = ca at *
  obtain ⟨T, hT⟩ : ∃ T, T = 1 + kOf c := ⟨_, rfl⟩
  rw [← hT] at cc
  have hT1 : 1 ≤ T := by omega
  have hT2 : T ≤ 1048576 := by omega
  have CC := Lib.hid cc
  have hst := fun (A : Addr) (m : Mode) (W : World) => run_store Try.prog W A (.float .f64 bits) m rfl
  clear cc hT rc
  go_enter Try.func3, Try.ntmps3
  go_wp2_with (fail)
  refine (CC.out _).mono ?_
  rintro e w1 ⟨rfl, hb1⟩
  have hbw : Below w.heap.size w w1 := ((Below.refl _ w).alloc (Nat.le_refl _) _).trans (hb1.mono (by simp))
  have HBW := Lib.hid hbw
  have hz1 := hbw.size
  clear hb1 hbw
  go_wp2_with (fail)
  have hc2 : IsCfg (w1.alloc (.cells #[.int .i64 0, .int .i64 ba, .int .i64 ca, .int .i64 T, .float .f64 bits] 27)) w1.heap.size ba ca T bits := heap_alloc_new w1 _
  have HBW2 := Lib.hid (HBW.out.alloc hz1 (.cells #[.int .i64 0, .int .i64 ba, .int .i64 ca, .int .i64 T, .float .f64 bits] 27))
  generalize w1.alloc (.cells #[.int .i64 0, .int .i64 ba, .int .i64 ca, .int .i64 T, .float .f64 bits] 27) = w2 at *
  have HC2 := Lib.hid hc2
  have hgc := hc2.lt
  clear hc2
  refine (senderNew 0 ba ca T bits 0 w2 (by omega) (by omega) (by omega) (by omega) (by omega) (by omega) (by omega) (by omega)).mono ?_
  rintro e w3 ⟨g, rfl, hs3, hg3, hb3⟩
  have H3 : Hid (IsSnd w3 g (fS ba ca T bits 0 0 0 0 0)) := Lib.hid hs3
  have B3 := Lib.hid (HBW2.out.trans (hb3.mono HBW2.out.size))
  have hgw : w.heap.size ≤ g := Nat.le_trans HBW2.out.size hg3
  obtain ⟨c0, c1, c2, c3, c4⟩ := (HC2.out.below hb3 hgc).cells
  clear hs3 hb3 hg3
  go_wp2_with (fail)
  refine (refNew ba ca T bits 0 w3 (by omega) (by omega) (by omega) (by omega) (by omega) (by omega) (by omega) (by omega)).mono ?_
  rintro e w4 ⟨g2, rfl, hs4, hg4, hb4⟩
  have hlt1 := H3.out.lt
  have HN12 : Hid (g ≠ g2) := Lib.hid (by omega)
  have hgw2 : w.heap.size ≤ g2 := Nat.le_trans B3.out.size hg4
  have H4 := Lib.hid (H3.out.below hb4 hlt1)
  have R4 : Hid (IsRef w4 g2 (toRef (fS ba ca T bits 0 0 0 0 0))) := Lib.hid hs4
  have B4 := Lib.hid (B3.out.trans (hb4.mono B3.out.size))
  clear hs4 hb4 hg4 c0 c1 c2 c3 c4 hlt1
  go_wp2_with (fail)
  refine (senderAlive w4).mono ?_
  rintro e w5 ⟨rfl, hb5⟩
  have H5 := Lib.hid (H4.out.below hb5 H4.out.lt)
  have R5 := Lib.hid (R4.out.below hb5 R4.out.lt)
  have B5 := Lib.hid (B4.out.trans (hb5.mono B4.out.size))
  clear hb5
  go_wp2_with (fail)
  refine (senderAlive w5).mono ?_
  rintro e w6 ⟨rfl, hb6⟩
  have B6 := Lib.hid (B5.out.trans (hb6.mono B5.out.size))
  clear hb6
  go_wp2
  go_ret
  exact ⟨rfl, B6.out⟩

theorem senderActs_walk (a b c bits : Int) (A : Option Addr) (n cp : Nat) (L : List (Int × Int)) (w : World) (hbits : (Lit.int .u64 bits).wf = true) (hB : Ps w A n cp L) :
    Calls Try.prog 3 #[.agg #[.int .i64 a, .int .i64 b, .int .i64 c], .int .u64 bits, .slice A n cp] w (True_ w) := by
  have hx : 0 ≤ bits := by
    have : 0 ≤ bits ∧ bits ≤ 18446744073709551615 := by simpa [Lit.wf, IntKind.min, IntKind.max, IntKind.signed, IntKind.bits] using hbits
    exact this.1
  obtain ⟨B, rfl⟩ := Int.eq_ofNat_of_zero_le hx
  by_cases h : 300 < n
  · exact senderActs_long a b c B A n cp w h
  · exact senderActs_main a b c B A n cp L w hB (by omega)
end Go.Proofs.Ytcdkcaahmjchjaa
