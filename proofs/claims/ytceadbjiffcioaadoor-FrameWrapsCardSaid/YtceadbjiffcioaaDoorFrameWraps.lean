/- The law FrameWraps, walked. -/
import Derived.Test.YtceadbjiffcioaaDoorFrame5
import Derived.Deep.RegionHeld
namespace Go.Proofs.YtceadbjiffcioaaDoor
open Go.RowKit

theorem frameCount_any (k : Int) (h1 : k < 4611686018427387904) (w : World) :
    Calls Tryd.prog 12 #[.int .i64 k] w fun e w' => e = .returned (.int .i64 (if 0 ≤ k then k + 3 else 0)) ∧ w = w' := by
  by_cases h : 0 ≤ k
  · rw [if_pos h]; exact frameCount k h (by omega) w
  · rw [if_neg h]; exact frameCount_neg k (by omega) w

theorem frameWraps_great (A : Option Addr) (n c : Nat) (l : List UInt8) (k : Int) (w : World) (hS : Signs w) (hB : Bs w A n c l) (hn : 3000 < n) :
    Calls Tryd.prog 3 #[.slice A n c, .int .i64 k] w (Alive w) := by
  have hmax := hB.nmax
  have HS := Lib.hid hS
  clear hS
  go_enter Tryd.func3, Tryd.ntmps3
  go_wp2_with (fail)
  refine (alive_any w HS.out).mono ?_
  rintro e w1 ⟨rfl, hb1⟩
  go_wp2
  go_ret
  exact ⟨rfl, hb1⟩

set_option maxRecDepth 100000 in
set_option maxHeartbeats 2000000 in
theorem frameWraps_no (A : Option Addr) (n c : Nat) (l : List UInt8) (k : Int) (w : World) (hS : Signs w) (hB : Bs w A n c l) (hn : n ≤ 3000) (hg : good l = false) (hk0 : -9223372036854775808 ≤ k) (hk1 : k ≤ 9223372036854775807) :
    Calls Tryd.prog 3 #[.slice A n c, .int .i64 k] w (Alive w) := by
  have HS := Lib.hid hS
  have HB := Lib.hid hB
  have HG := Lib.hid hg
  clear hS hB hg
  have h3 : k < 0 ∨ (0 ≤ k ∧ k < 4611686018427387904) ∨ 4611686018427387904 ≤ k := by omega
  rcases h3 with h0 | ⟨h0, h1⟩ | h0
  all_goals
    go_enter Tryd.func3, Tryd.ntmps3
    go_wp2_with (fail)
    refine (frameWrap_no A n c l w HS.out HB.out HG.out).mono ?_
    rintro e w1 ⟨A1, c1, rfl, _, hb1⟩
    have S1 := Lib.hid (HS.out.below hb1)
    have B1 := Lib.hid (HB.out.below hb1)
    go_wp2_with (fail)
    refine (refGood A n c l w1 B1.out false HG.out).mono ?_
    rintro e w2 ⟨rfl, rfl⟩
    go_wp2_with (fail)
  · refine (frameCount_neg k h0 w1).mono ?_
    rintro e w2 ⟨rfl, rfl⟩
    go_wp2_with (fail)
    refine (alive_any w1 S1.out).mono ?_
    rintro e w2 ⟨rfl, hb2⟩
    go_wp2_with (fail)
    refine (frameGood_b A n c l w2 (S1.out.below hb2) (B1.out.below hb2) false HG.out).mono ?_
    rintro e w3 ⟨rfl, hb3⟩
    go_wp2_with (fail)
    go_ret
    have b2 := hb1.trans (hb2.mono hb1.size)
    exact ⟨rfl, b2.trans (hb3.mono b2.size)⟩
  · refine (frameCount k h0 (by omega) w1).mono ?_
    rintro e w2 ⟨rfl, rfl⟩
    go_wp2_with (fail)
    refine (alive_any w1 S1.out).mono ?_
    rintro e w2 ⟨rfl, hb2⟩
    go_wp2_with (fail)
    refine (frameGood_b A n c l w2 (S1.out.below hb2) (B1.out.below hb2) false HG.out).mono ?_
    rintro e w3 ⟨rfl, hb3⟩
    go_wp2_with (fail)
    go_ret
    have b2 := hb1.trans (hb2.mono hb1.size)
    exact ⟨rfl, b2.trans (hb3.mono b2.size)⟩
  · refine (alive_any w1 S1.out).mono ?_
    rintro e w2 ⟨rfl, hb2⟩
    go_wp2_with (fail)
    refine (frameGood_b A n c l w2 (S1.out.below hb2) (B1.out.below hb2) false HG.out).mono ?_
    rintro e w3 ⟨rfl, hb3⟩
    go_wp2_with (fail)
    go_ret
    have b2 := hb1.trans (hb2.mono hb1.size)
    exact ⟨rfl, b2.trans (hb3.mono b2.size)⟩

set_option maxRecDepth 100000 in
set_option maxHeartbeats 2000000 in
theorem frameWraps_yes (A : Option Addr) (n c : Nat) (l : List UInt8) (k : Int) (w : World) (hS : Signs w) (hB : Bs w A n c l) (hn : n ≤ 3000) (hg : good l = true) (hk0 : -9223372036854775808 ≤ k) (hk1 : k ≤ 9223372036854775807) :
    Calls Tryd.prog 3 #[.slice A n c, .int .i64 k] w (Alive w) := by
  have HS := Lib.hid hS
  have HB := Lib.hid hB
  have HG := Lib.hid hg
  clear hS hB hg
  have h3 : k < 0 ∨ (0 ≤ k ∧ k < 4611686018427387904) ∨ 4611686018427387904 ≤ k := by omega
  rcases h3 with h0 | ⟨h0, h1⟩ | h0
  all_goals
    go_enter Tryd.func3, Tryd.ntmps3
    go_wp2_with (fail)
    refine (frameWrap_yes A n c l w HS.out HB.out HG.out (by omega)).mono ?_
    rintro e w1 ⟨A1, c1, rfl, hF1, hb1⟩
    have S1 := Lib.hid (HS.out.below hb1)
    have B1 := Lib.hid (HB.out.below hb1)
    have hl1 : (11 :: (l ++ [28, 13]) : List UInt8).length = l.length + 2 + 1 := by simp
    rw [hl1] at hF1
    have F1 := Lib.hid hF1
    have S1d := Lib.hid (show Signs w1.drew from S1.out)
    clear hF1 hl1
    go_wp2_with (fail)
    refine (refGood A n c l w1 B1.out true HG.out).mono ?_
    rintro e w2 ⟨rfl, rfl⟩
    go_wp2_with (fail)
  · refine (frameCount_neg k h0 w1).mono ?_
    rintro e w2 ⟨rfl, rfl⟩
    go_wp2_with (fail)
    go_region_held (fun w' => (convert 22 9 (.slice A1 (l.length + 2 + 1) c1)).run Tryd.prog w' = .ok (.string (txt (11 :: (l ++ [28, 13])))) w')
      (first | exact (F1.out.below b4).str' | exact (F1.out.below b3).str' | exact (F1.out.below b2).str' | exact F1.out.drew.str')
      (first
      | (go_at_call 9; refine (alive_any w1.drew S1d.out).mono ?_
         rintro e w2 ⟨rfl, hb2⟩
         have b2 : Below w1.heap.size w1 w2 := ((Below.refl _ _).drew).trans hb2
         clear hb2)
      | (go_at_call 13; refine (frameGood_b A n c l w2 (S1.out.below b2) (B1.out.below b2) true HG.out).mono ?_
         rintro e w3 ⟨rfl, hb3⟩
         have b3 : Below w1.heap.size w1 w3 := b2.trans (hb3.mono b2.size)
         clear hb3)
      | (go_at_call 14; refine (refWrap A n c l w3 (B1.out.below b3) (by omega)).mono ?_
         rintro e w4 ⟨A4, c4, rfl, hF4, hb4⟩
         have b4 : Below w1.heap.size w1 w4 := b3.trans (hb4.mono b3.size)
         have hl4 : (11 :: (l ++ [28, 13]) : List UInt8).length = l.length + 2 + 1 := by simp
         rw [hl4] at hF4
         obtain ⟨cv, hcv, hcw⟩ : ∃ cv : World → Result Value, (∀ W, (convert 22 9 (.slice A4 (l.length + 2 + 1) c4)).run Tryd.prog W = cv W) ∧ cv w4 = .ok (.string (txt (11 :: (l ++ [28, 13])))) w4 := ⟨_, fun _ => rfl, hF4.str'⟩
         clear hl4 hF4 hb4))
    go_wp2
    go_ret
    exact ⟨rfl, hb1.trans (b4.mono hb1.size)⟩
  · refine (frameCount k h0 (by omega) w1).mono ?_
    rintro e w2 ⟨rfl, rfl⟩
    go_wp2_with (fail)
    go_region_held (fun w' => (convert 22 9 (.slice A1 (l.length + 2 + 1) c1)).run Tryd.prog w' = .ok (.string (txt (11 :: (l ++ [28, 13])))) w')
      (first | exact (F1.out.below b4).str' | exact (F1.out.below b3).str' | exact (F1.out.below b2).str' | exact F1.out.drew.str')
      (first
      | (go_at_call 9; refine (alive_any w1.drew S1d.out).mono ?_
         rintro e w2 ⟨rfl, hb2⟩
         have b2 : Below w1.heap.size w1 w2 := ((Below.refl _ _).drew).trans hb2
         clear hb2)
      | (go_at_call 13; refine (frameGood_b A n c l w2 (S1.out.below b2) (B1.out.below b2) true HG.out).mono ?_
         rintro e w3 ⟨rfl, hb3⟩
         have b3 : Below w1.heap.size w1 w3 := b2.trans (hb3.mono b2.size)
         clear hb3)
      | (go_at_call 14; refine (refWrap A n c l w3 (B1.out.below b3) (by omega)).mono ?_
         rintro e w4 ⟨A4, c4, rfl, hF4, hb4⟩
         have b4 : Below w1.heap.size w1 w4 := b3.trans (hb4.mono b3.size)
         have hl4 : (11 :: (l ++ [28, 13]) : List UInt8).length = l.length + 2 + 1 := by simp
         rw [hl4] at hF4
         obtain ⟨cv, hcv, hcw⟩ : ∃ cv : World → Result Value, (∀ W, (convert 22 9 (.slice A4 (l.length + 2 + 1) c4)).run Tryd.prog W = cv W) ∧ cv w4 = .ok (.string (txt (11 :: (l ++ [28, 13])))) w4 := ⟨_, fun _ => rfl, hF4.str'⟩
         clear hl4 hF4 hb4))
    go_wp2
    go_ret
    exact ⟨rfl, hb1.trans (b4.mono hb1.size)⟩
  · skip
    go_region_held (fun w' => (convert 22 9 (.slice A1 (l.length + 2 + 1) c1)).run Tryd.prog w' = .ok (.string (txt (11 :: (l ++ [28, 13])))) w')
      (first | exact (F1.out.below b4).str' | exact (F1.out.below b3).str' | exact (F1.out.below b2).str' | exact F1.out.drew.str')
      (first
      | (go_at_call 9; refine (alive_any w1.drew S1d.out).mono ?_
         rintro e w2 ⟨rfl, hb2⟩
         have b2 : Below w1.heap.size w1 w2 := ((Below.refl _ _).drew).trans hb2
         clear hb2)
      | (go_at_call 13; refine (frameGood_b A n c l w2 (S1.out.below b2) (B1.out.below b2) true HG.out).mono ?_
         rintro e w3 ⟨rfl, hb3⟩
         have b3 : Below w1.heap.size w1 w3 := b2.trans (hb3.mono b2.size)
         clear hb3)
      | (go_at_call 14; refine (refWrap A n c l w3 (B1.out.below b3) (by omega)).mono ?_
         rintro e w4 ⟨A4, c4, rfl, hF4, hb4⟩
         have b4 : Below w1.heap.size w1 w4 := b3.trans (hb4.mono b3.size)
         have hl4 : (11 :: (l ++ [28, 13]) : List UInt8).length = l.length + 2 + 1 := by simp
         rw [hl4] at hF4
         obtain ⟨cv, hcv, hcw⟩ : ∃ cv : World → Result Value, (∀ W, (convert 22 9 (.slice A4 (l.length + 2 + 1) c4)).run Tryd.prog W = cv W) ∧ cv w4 = .ok (.string (txt (11 :: (l ++ [28, 13])))) w4 := ⟨_, fun _ => rfl, hF4.str'⟩
         clear hl4 hF4 hb4))
    go_wp2
    go_ret
    exact ⟨rfl, hb1.trans (b4.mono hb1.size)⟩

theorem frameWraps_walk (A : Option Addr) (n c : Nat) (l : List UInt8) (k : Int) (w : World) (hS : Signs w) (hB : Bs w A n c l) (_hR : c ≤ 140737488351232) (hk : (Lit.int .i64 k).wf = true) :
    Calls Tryd.prog 3 #[.slice A n c, .int .i64 k] w (Alive w) := by
  have hx : -9223372036854775808 ≤ k ∧ k ≤ 9223372036854775807 := by simpa [Lit.wf, IntKind.min, IntKind.max, IntKind.signed, IntKind.bits] using hk
  by_cases hn : 3000 < n
  · exact frameWraps_great A n c l k w hS hB hn
  · cases hg : good l with
    | true => exact frameWraps_yes A n c l k w hS hB (by omega) hg hx.1 hx.2
    | false => exact frameWraps_no A n c l k w hS hB (by omega) hg hx.1 hx.2
end Go.Proofs.YtceadbjiffcioaaDoor
