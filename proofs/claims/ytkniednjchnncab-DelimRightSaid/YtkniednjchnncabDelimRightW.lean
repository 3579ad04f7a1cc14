/- DelimRight, walked. -/
import Derived.Test.YtkniednjchnncabDelimAlive
import Derived.Test.YtkniednjchnncabDelimMath
import Derived.RegionTactic
import Derived.BigRegion
import Derived.Deep.CutRange
import Derived.Deep.DeepCutAuto
namespace Go.Proofs.Ytkniednjchnncab
open Go.RowKit

set_option maxHeartbeats 1000000 in
set_option maxRecDepth 100000 in
theorem delimRight_walk (s : Sgn) (c : Int) (w : World) (wf : (Lit.int .u8 c).wf = true) : Calls Try.prog 5 #[s.v, .int .u8 c] w (True_ w) := by
  obtain ⟨x, rfl⟩ := u8_of c wf
  clear wf
  go_enter Try.func5, Try.ntmps5
  go_wp2_with (fail)
  refine (delimRight s _).mono ?_
  rintro e w1 ⟨rfl, hb1⟩
  have hn1 := heap_alloc_new w (.cells #[.int .u8 (s.a.toNat : Int), .int .u8 (s.b.toNat : Int), .int .u8 (s.c.toNat : Int), .int .u8 (s.d.toNat : Int), .int .u8 (s.e.toNat : Int)] 24)
  have HR1 : Hid (w1.heap[w.heap.size]? = some (.cells #[.int .u8 (s.a.toNat : Int), .int .u8 (s.b.toNat : Int), .int .u8 (s.c.toNat : Int), .int .u8 (s.d.toNat : Int), .int .u8 (s.e.toNat : Int)] 24)) := Lib.hid (by rw [hb1.block _ (by simp)]; exact hn1)
  have HG1 : Hid (w.heap.size < w1.heap.size) := Lib.hid (Nat.lt_of_lt_of_le (by simp) hb1.size)
  have HB1 : Hid (Below w.heap.size w w1) := Lib.hid (((Below.refl _ w).alloc (Nat.le_refl _) _).trans (hb1.mono (by simp)))
  clear hb1 hn1
  obtain ⟨G0, hG⟩ : ∃ G, G = w.heap.size := ⟨_, rfl⟩
  have HB1' : Hid (Below w.heap.size w w1) := Lib.hid HB1.out
  clear HB1
  have HGW : Hid (w.heap.size ≤ G0) := Lib.hid (by omega)
  rw [← hG] at HR1 HG1 ⊢
  clear hG
  have q0 := cell_of_row w1 G0 0 _ _ _ HR1.out
  have q1 := cell_of_row w1 G0 1 _ _ _ HR1.out
  have q2 := cell_of_row w1 G0 2 _ _ _ HR1.out
  have q3 := cell_of_row w1 G0 3 _ _ _ HR1.out
  have q4 := cell_of_row w1 G0 4 _ _ _ HR1.out
  simp only [List.getElem?_toArray, List.getElem?_cons_zero, List.getElem?_cons_succ] at q0 q1 q2 q3 q4
  go_upto_region 3 with (fail)
  clear q0 q1 q2 q3 q4
  have hr := heap_alloc_new w1 (.cells #[.int .u8 (s.e.toNat : Int), .int .u8 (s.d.toNat : Int), .int .u8 (s.a.toNat : Int), .int .u8 (s.b.toNat : Int), .int .u8 (s.c.toNat : Int)] 24)
  have hb2 := (Below.refl w1.heap.size w1).alloc (Nat.le_refl _) (.cells #[.int .u8 (s.e.toNat : Int), .int .u8 (s.d.toNat : Int), .int .u8 (s.a.toNat : Int), .int .u8 (s.b.toNat : Int), .int .u8 (s.c.toNat : Int)] 24)
  have HB2 : Hid (Below w.heap.size w (w1.alloc (.cells #[.int .u8 (s.e.toNat : Int), .int .u8 (s.d.toNat : Int), .int .u8 (s.a.toNat : Int), .int .u8 (s.b.toNat : Int), .int .u8 (s.c.toNat : Int)] 24))) := Lib.hid (HB1'.out.trans (hb2.mono HB1'.out.size))
  have HR2 : Hid ((w1.alloc (.cells #[.int .u8 (s.e.toNat : Int), .int .u8 (s.d.toNat : Int), .int .u8 (s.a.toNat : Int), .int .u8 (s.b.toNat : Int), .int .u8 (s.c.toNat : Int)] 24)).heap[G0]? = some (.cells #[.int .u8 (s.a.toNat : Int), .int .u8 (s.b.toNat : Int), .int .u8 (s.c.toNat : Int), .int .u8 (s.d.toNat : Int), .int .u8 (s.e.toNat : Int)] 24)) := Lib.hid (by rw [hb2.block _ HG1.out]; exact HR1.out)
  have HG2 : Hid (G0 < (w1.alloc (.cells #[.int .u8 (s.e.toNat : Int), .int .u8 (s.d.toNat : Int), .int .u8 (s.a.toNat : Int), .int .u8 (s.b.toNat : Int), .int .u8 (s.c.toNat : Int)] 24)).heap.size) := Lib.hid (Nat.lt_of_lt_of_le HG1.out hb2.size)
  have hg3 : w1.heap.size < (w1.alloc (.cells #[.int .u8 (s.e.toNat : Int), .int .u8 (s.d.toNat : Int), .int .u8 (s.a.toNat : Int), .int .u8 (s.b.toNat : Int), .int .u8 (s.c.toNat : Int)] 24)).heap.size := by simp
  obtain ⟨G1, hG⟩ : ∃ G, G = w1.heap.size := ⟨_, rfl⟩
  have HG1W : Hid (w.heap.size ≤ G1) := Lib.hid (by rw [hG]; exact HB1'.out.size)
  rw [← hG] at hr hg3 ⊢
  clear hb2 HB1' HR1 HG1 hG
  generalize w1.alloc (.cells #[.int .u8 (s.e.toNat : Int), .int .u8 (s.d.toNat : Int), .int .u8 (s.a.toNat : Int), .int .u8 (s.b.toNat : Int), .int .u8 (s.c.toNat : Int)] 24) = W2 at *
  have HT2 := Lib.hid hr
  have HG3 := Lib.hid hg3
  clear hr hg3
  go_cut [7, 8] (fun x y wx => ∃ g2 g3 : Nat, x = .pointer (some ⟨g2, 0, none⟩) ∧ y = .pointer (some ⟨g3, 0, none⟩) ∧ g2 ≠ g3 ∧ W2.heap.size ≤ g2 ∧ W2.heap.size ≤ g3 ∧ g2 < wx.heap.size ∧ g3 < wx.heap.size ∧ wx.heap[g2]? = some (.cells #[.int .u8 (s.a.toNat : Int), .int .u8 (s.b.toNat : Int), .int .u8 (s.c.toNat : Int), .int .u8 (s.d.toNat : Int), .int .u8 (s.e.toNat : Int)] 24) ∧ wx.heap[g3]? = some (.cells #[.int .u8 (s.a.toNat : Int), .int .u8 (s.b.toNat : Int), .int .u8 (s.c.toNat : Int), .int .u8 (s.d.toNat : Int), .int .u8 (s.e.toNat : Int)] 24) ∧ Below W2.heap.size W2 wx)
  case first =>
    have q0 := cell_of_row W2 G0 0 _ _ _ HR2.out
    have q1 := cell_of_row W2 G0 1 _ _ _ HR2.out
    have q2 := cell_of_row W2 G0 2 _ _ _ HR2.out
    have q3 := cell_of_row W2 G0 3 _ _ _ HR2.out
    have q4 := cell_of_row W2 G0 4 _ _ _ HR2.out
    simp only [List.getElem?_toArray, List.getElem?_cons_zero, List.getElem?_cons_succ] at q0 q1 q2 q3 q4
    have hlt : G0 < W2.heap.size := HG2.out
    have hne : G0 ≠ W2.heap.size := by omega
    go_region
    all_goals
      go_wp2_with (fail)
      go_meet
      have h2 := rows_two W2.heap (.cells #[.int .u8 (s.a.toNat : Int), .int .u8 (s.b.toNat : Int), .int .u8 (s.c.toNat : Int), .int .u8 (s.d.toNat : Int), .int .u8 (s.e.toNat : Int)] 24) (.cells #[.int .u8 (s.a.toNat : Int), .int .u8 (s.b.toNat : Int), .int .u8 (s.c.toNat : Int), .int .u8 (s.d.toNat : Int), .int .u8 (s.e.toNat : Int)] 24)
      have hb := (((Below.refl W2.heap.size W2).alloc (Nat.le_refl _) (.cells #[.int .u8 (s.a.toNat : Int), .int .u8 (s.b.toNat : Int), .int .u8 (s.c.toNat : Int), .int .u8 (s.d.toNat : Int), .int .u8 (s.e.toNat : Int)] 24)).alloc (by simp) (.cells #[.int .u8 (s.a.toNat : Int), .int .u8 (s.b.toNat : Int), .int .u8 (s.c.toNat : Int), .int .u8 (s.d.toNat : Int), .int .u8 (s.e.toNat : Int)] 24)).drew
      first
      | exact ⟨W2.heap.size, W2.heap.size + 1, rfl, rfl, by omega, by omega, by omega, by show _ < ((W2.heap.push _).push _).size; simp only [Array.size_push]; omega, by show _ < ((W2.heap.push _).push _).size; simp only [Array.size_push]; omega, h2.1, h2.2, hb⟩
      | exact ⟨W2.heap.size + 1, W2.heap.size, rfl, rfl, by omega, by omega, by omega, by show _ < ((W2.heap.push _).push _).size; simp only [Array.size_push]; omega, by show _ < ((W2.heap.push _).push _).size; simp only [Array.size_push]; omega, h2.2, h2.1, hb⟩
  case rest =>
    obtain ⟨g2, g3, rfl, rfl, hne, hl2, hl3, hs2, hs3, hr2, hr3, hb3⟩ := hcut
    have HN := Lib.hid hne
    have HL2 := Lib.hid hl2
    have HL3 := Lib.hid hl3
    have HS2 := Lib.hid hs2
    have HS3 := Lib.hid hs3
    have HR2b := Lib.hid hr2
    have HR3b := Lib.hid hr3
    have HBC := Lib.hid hb3
    have HG0c : Hid (wc.heap[G0]? = some (.cells #[.int .u8 (s.a.toNat : Int), .int .u8 (s.b.toNat : Int), .int .u8 (s.c.toNat : Int), .int .u8 (s.d.toNat : Int), .int .u8 (s.e.toNat : Int)] 24)) := Lib.hid (by rw [hb3.block _ HG2.out]; exact HR2.out)
    have HG1c : Hid (wc.heap[G1]? = some (.cells #[.int .u8 (s.e.toNat : Int), .int .u8 (s.d.toNat : Int), .int .u8 (s.a.toNat : Int), .int .u8 (s.b.toNat : Int), .int .u8 (s.c.toNat : Int)] 24)) := Lib.hid (by rw [hb3.block _ HG3.out]; exact HT2.out)
    clear hne hl2 hl3 hs2 hs3 hr2 hr3 hb3
    have q0 := cell_of_row wc G0 0 _ _ _ HG0c.out
    have q1 := cell_of_row wc g2 1 _ _ _ HR2b.out
    have q2 := cell_of_row wc g3 2 _ _ _ HR3b.out
    simp only [List.getElem?_toArray, List.getElem?_cons_zero, List.getElem?_cons_succ] at q0 q1 q2
    have f1 := frozen_of HR2b.out 1
    have f2 := frozen_of HR3b.out 2
    have hne1 : g2 ≠ g3 := HN.out
    have hne2 : g3 ≠ g2 := fun h => HN.out h.symm
    go_wp2_with (fail)
    clear q0 q1 q2 f1 f2 hne1 hne2
    have HRT : Hid (((wc.setCell ⟨g2, 1, none⟩ (.int .u8 (s.a.toNat : Int))).setCell ⟨g3, 2, none⟩ (.int .u8 (x.toNat : Int))).heap[G1]? = some (.cells #[.int .u8 (s.e.toNat : Int), .int .u8 (s.d.toNat : Int), .int .u8 (s.a.toNat : Int), .int .u8 (s.b.toNat : Int), .int .u8 (s.c.toNat : Int)] 24)) := Lib.hid (by
      rw [heap_setCell_other _ _ _ _ (by show G1 ≠ g3; have := HL3.out; have := HG3.out; omega), heap_setCell_other _ _ _ _ (by show G1 ≠ g2; have := HL2.out; have := HG3.out; omega)]
      exact HG1c.out)
    have HRW : Hid (((wc.setCell ⟨g2, 1, none⟩ (.int .u8 (s.a.toNat : Int))).setCell ⟨g3, 2, none⟩ (.int .u8 (x.toNat : Int))).heap[g2]? = some (.cells #[.int .u8 (s.a.toNat : Int), .int .u8 (s.a.toNat : Int), .int .u8 (s.c.toNat : Int), .int .u8 (s.d.toNat : Int), .int .u8 (s.e.toNat : Int)] 24)) := Lib.hid (by
      rw [heap_setCell_other _ _ _ _ (by show g2 ≠ g3; exact HN.out)]
      exact Lib.heap_setCell_same HR2b.out _)
    have HRO : Hid (((wc.setCell ⟨g2, 1, none⟩ (.int .u8 (s.a.toNat : Int))).setCell ⟨g3, 2, none⟩ (.int .u8 (x.toNat : Int))).heap[g3]? = some (.cells #[.int .u8 (s.a.toNat : Int), .int .u8 (s.b.toNat : Int), .int .u8 (x.toNat : Int), .int .u8 (s.d.toNat : Int), .int .u8 (s.e.toNat : Int)] 24)) := Lib.hid (by
      exact Lib.heap_setCell_same (w := wc.setCell ⟨g2, 1, none⟩ (.int .u8 (s.a.toNat : Int))) (by rw [heap_setCell_other _ _ _ _ (by show g3 ≠ g2; exact fun h => HN.out h.symm)]; exact HR3b.out) _)
    have hbc := (HBC.out.setCell (p := ⟨g2, 1, none⟩) HL2.out (.int .u8 (s.a.toNat : Int))).setCell (p := ⟨g3, 2, none⟩) HL3.out (.int .u8 (x.toNat : Int))
    have HB5 : Hid (Below w.heap.size w ((wc.setCell ⟨g2, 1, none⟩ (.int .u8 (s.a.toNat : Int))).setCell ⟨g3, 2, none⟩ (.int .u8 (x.toNat : Int)))) := Lib.hid (HB2.out.trans (hbc.mono HB2.out.size))
    have z1 : G1 < ((wc.setCell ⟨g2, 1, none⟩ (.int .u8 (s.a.toNat : Int))).setCell ⟨g3, 2, none⟩ (.int .u8 (x.toNat : Int))).heap.size := Nat.lt_of_lt_of_le HG3.out hbc.size
    have z2 : g2 < ((wc.setCell ⟨g2, 1, none⟩ (.int .u8 (s.a.toNat : Int))).setCell ⟨g3, 2, none⟩ (.int .u8 (x.toNat : Int))).heap.size := by simpa using HS2.out
    have z3 : g3 < ((wc.setCell ⟨g2, 1, none⟩ (.int .u8 (s.a.toNat : Int))).setCell ⟨g3, 2, none⟩ (.int .u8 (x.toNat : Int))).heap.size := by simpa using HS3.out
    clear hbc HBC HR2b HR3b HS2 HS3 HG0c HG1c HB2 HR2 HT2
    generalize (wc.setCell ⟨g2, 1, none⟩ (.int .u8 (s.a.toNat : Int))).setCell ⟨g3, 2, none⟩ (.int .u8 (x.toNat : Int)) = W5 at *
    have Z1 := Lib.hid z1
    have Z2 := Lib.hid z2
    have Z3 := Lib.hid z3
    clear z1 z2 z3
    refine (delimAlive W5).mono ?_
    rintro e W6 ⟨rfl, hb6⟩
    have HT6 : Hid (W6.heap[G1]? = some (.cells #[.int .u8 (s.e.toNat : Int), .int .u8 (s.d.toNat : Int), .int .u8 (s.a.toNat : Int), .int .u8 (s.b.toNat : Int), .int .u8 (s.c.toNat : Int)] 24)) := Lib.hid (by rw [hb6.block _ Z1.out]; exact HRT.out)
    have HW6 : Hid (W6.heap[g2]? = some (.cells #[.int .u8 (s.a.toNat : Int), .int .u8 (s.a.toNat : Int), .int .u8 (s.c.toNat : Int), .int .u8 (s.d.toNat : Int), .int .u8 (s.e.toNat : Int)] 24)) := Lib.hid (by rw [hb6.block _ Z2.out]; exact HRW.out)
    have HO6 : Hid (W6.heap[g3]? = some (.cells #[.int .u8 (s.a.toNat : Int), .int .u8 (s.b.toNat : Int), .int .u8 (x.toNat : Int), .int .u8 (s.d.toNat : Int), .int .u8 (s.e.toNat : Int)] 24)) := Lib.hid (by rw [hb6.block _ Z3.out]; exact HRO.out)
    have Y2 : Hid (g2 < W6.heap.size) := Lib.hid (Nat.lt_of_lt_of_le Z2.out hb6.size)
    have Y3 : Hid (g3 < W6.heap.size) := Lib.hid (Nat.lt_of_lt_of_le Z3.out hb6.size)
    have HB6 : Hid (Below w.heap.size w W6) := Lib.hid (HB5.out.trans (hb6.mono HB5.out.size))
    clear hb6 HRT HRW HRO Z1 Z2 Z3 HB5
    have q0 := cell_of_row W6 G1 0 _ _ _ HT6.out
    have q1 := cell_of_row W6 G1 1 _ _ _ HT6.out
    have q2 := cell_of_row W6 G1 2 _ _ _ HT6.out
    have q3 := cell_of_row W6 G1 3 _ _ _ HT6.out
    have q4 := cell_of_row W6 G1 4 _ _ _ HT6.out
    simp only [List.getElem?_toArray, List.getElem?_cons_zero, List.getElem?_cons_succ] at q0 q1 q2 q3 q4
    go_wp2_with (fail)
    refine (delimRight ⟨s.e, s.d, s.a, s.b, s.c⟩ W6).mono ?_
    rw [Sgn.good_turn]
    rintro e W7 ⟨rfl, hb7⟩
    have HW7 : Hid (W7.heap[g2]? = some (.cells #[.int .u8 (s.a.toNat : Int), .int .u8 (s.a.toNat : Int), .int .u8 (s.c.toNat : Int), .int .u8 (s.d.toNat : Int), .int .u8 (s.e.toNat : Int)] 24)) := Lib.hid (by rw [hb7.block _ Y2.out]; exact HW6.out)
    have HO7 : Hid (W7.heap[g3]? = some (.cells #[.int .u8 (s.a.toNat : Int), .int .u8 (s.b.toNat : Int), .int .u8 (x.toNat : Int), .int .u8 (s.d.toNat : Int), .int .u8 (s.e.toNat : Int)] 24)) := Lib.hid (by rw [hb7.block _ Y3.out]; exact HO6.out)
    have X3 : Hid (g3 < W7.heap.size) := Lib.hid (Nat.lt_of_lt_of_le Y3.out hb7.size)
    have HB7 : Hid (Below w.heap.size w W7) := Lib.hid (HB6.out.trans (hb7.mono HB6.out.size))
    clear hb7 HT6 HW6 HO6 Y2 Y3 HB6 q0 q1 q2 q3 q4
    have hgg : (s.good != s.good) = false := by simp
    have q0 := cell_of_row W7 g2 0 _ _ _ HW7.out
    have q1 := cell_of_row W7 g2 1 _ _ _ HW7.out
    have q2 := cell_of_row W7 g2 2 _ _ _ HW7.out
    have q3 := cell_of_row W7 g2 3 _ _ _ HW7.out
    have q4 := cell_of_row W7 g2 4 _ _ _ HW7.out
    simp only [List.getElem?_toArray, List.getElem?_cons_zero, List.getElem?_cons_succ] at q0 q1 q2 q3 q4
    go_wp2_with (fail)
    refine (delimRight ⟨s.a, s.a, s.c, s.d, s.e⟩ W7).mono ?_
    rw [Sgn.good_twice]
    rintro e W8 ⟨rfl, hb8⟩
    have HO8 : Hid (W8.heap[g3]? = some (.cells #[.int .u8 (s.a.toNat : Int), .int .u8 (s.b.toNat : Int), .int .u8 (x.toNat : Int), .int .u8 (s.d.toNat : Int), .int .u8 (s.e.toNat : Int)] 24)) := Lib.hid (by rw [hb8.block _ X3.out]; exact HO7.out)
    have HB8 : Hid (Below w.heap.size w W8) := Lib.hid (HB7.out.trans (hb8.mono HB7.out.size))
    clear hb8 HW7 HO7 X3 HB7 q0 q1 q2 q3 q4 hgg
    go_upto_region 8 with (fail)
    go_cut [9] (fun p wx => ∃ b : Bool, p = .bool b ∧ (b = true → isSign x.toNat = false) ∧ wx = W8)
    case first =>
      have HX : Hid (x.toNat ≤ 32 ∨ (33 ≤ x.toNat ∧ x.toNat ≤ 47) ∨ (48 ≤ x.toNat ∧ x.toNat ≤ 57) ∨ (58 ≤ x.toNat ∧ x.toNat ≤ 64) ∨ (65 ≤ x.toNat ∧ x.toNat ≤ 90) ∨ (91 ≤ x.toNat ∧ x.toNat ≤ 96) ∨ (97 ≤ x.toNat ∧ x.toNat ≤ 122) ∨ (123 ≤ x.toNat ∧ x.toNat ≤ 126) ∨ 127 ≤ x.toNat) := Lib.hid (by omega)
      have hx : x.toNat < 256 := x.toNat_lt
      generalize x.toNat = n at *
      rcases HX.out with h | h | h | h | h | h | h | h | h
      · have d1 : ¬ ((97 : Int) ≤ (n : Int)) := by omega
        have d2 : ((n : Int) ≤ 122) := by omega
        have d3 : ¬ ((65 : Int) ≤ (n : Int)) := by omega
        have d4 : ((n : Int) ≤ 90) := by omega
        have d5 : ¬ ((48 : Int) ≤ (n : Int)) := by omega
        have d6 : ((n : Int) ≤ 57) := by omega
        have d7 : ((n : Int) ≤ 32) := by omega
        have d8 : ¬ ((126 : Int) < (n : Int)) := by omega
        have HI := Lib.hid h
        clear h HX hx
        go_wp2_with (fail)
        go_meet
        exact ⟨true, rfl, fun _ => isSign_no (by have := HI.out; omega), rfl⟩
      · have d1 : ¬ ((97 : Int) ≤ (n : Int)) := by omega
        have d2 : ((n : Int) ≤ 122) := by omega
        have d3 : ¬ ((65 : Int) ≤ (n : Int)) := by omega
        have d4 : ((n : Int) ≤ 90) := by omega
        have d5 : ¬ ((48 : Int) ≤ (n : Int)) := by omega
        have d6 : ((n : Int) ≤ 57) := by omega
        have d7 : ¬ ((n : Int) ≤ 32) := by omega
        have d8 : ¬ ((126 : Int) < (n : Int)) := by omega
        have HI := Lib.hid h
        clear h HX hx
        go_wp2_with (fail)
        go_meet
        exact ⟨false, rfl, fun h => (by cases h), rfl⟩
      · have d1 : ¬ ((97 : Int) ≤ (n : Int)) := by omega
        have d2 : ((n : Int) ≤ 122) := by omega
        have d3 : ¬ ((65 : Int) ≤ (n : Int)) := by omega
        have d4 : ((n : Int) ≤ 90) := by omega
        have d5 : ((48 : Int) ≤ (n : Int)) := by omega
        have d6 : ((n : Int) ≤ 57) := by omega
        have d7 : ¬ ((n : Int) ≤ 32) := by omega
        have d8 : ¬ ((126 : Int) < (n : Int)) := by omega
        have HI := Lib.hid h
        clear h HX hx
        go_wp2_with (fail)
        go_meet
        exact ⟨true, rfl, fun _ => isSign_no (by have := HI.out; omega), rfl⟩
      · have d1 : ¬ ((97 : Int) ≤ (n : Int)) := by omega
        have d2 : ((n : Int) ≤ 122) := by omega
        have d3 : ¬ ((65 : Int) ≤ (n : Int)) := by omega
        have d4 : ((n : Int) ≤ 90) := by omega
        have d5 : ((48 : Int) ≤ (n : Int)) := by omega
        have d6 : ¬ ((n : Int) ≤ 57) := by omega
        have d7 : ¬ ((n : Int) ≤ 32) := by omega
        have d8 : ¬ ((126 : Int) < (n : Int)) := by omega
        have HI := Lib.hid h
        clear h HX hx
        go_wp2_with (fail)
        go_meet
        exact ⟨false, rfl, fun h => (by cases h), rfl⟩
      · have d1 : ¬ ((97 : Int) ≤ (n : Int)) := by omega
        have d2 : ((n : Int) ≤ 122) := by omega
        have d3 : ((65 : Int) ≤ (n : Int)) := by omega
        have d4 : ((n : Int) ≤ 90) := by omega
        have d5 : ((48 : Int) ≤ (n : Int)) := by omega
        have d6 : ¬ ((n : Int) ≤ 57) := by omega
        have d7 : ¬ ((n : Int) ≤ 32) := by omega
        have d8 : ¬ ((126 : Int) < (n : Int)) := by omega
        have HI := Lib.hid h
        clear h HX hx
        go_wp2_with (fail)
        go_meet
        exact ⟨true, rfl, fun _ => isSign_no (by have := HI.out; omega), rfl⟩
      · have d1 : ¬ ((97 : Int) ≤ (n : Int)) := by omega
        have d2 : ((n : Int) ≤ 122) := by omega
        have d3 : ((65 : Int) ≤ (n : Int)) := by omega
        have d4 : ¬ ((n : Int) ≤ 90) := by omega
        have d5 : ((48 : Int) ≤ (n : Int)) := by omega
        have d6 : ¬ ((n : Int) ≤ 57) := by omega
        have d7 : ¬ ((n : Int) ≤ 32) := by omega
        have d8 : ¬ ((126 : Int) < (n : Int)) := by omega
        have HI := Lib.hid h
        clear h HX hx
        go_wp2_with (fail)
        go_meet
        exact ⟨false, rfl, fun h => (by cases h), rfl⟩
      · have d1 : ((97 : Int) ≤ (n : Int)) := by omega
        have d2 : ((n : Int) ≤ 122) := by omega
        have d3 : ((65 : Int) ≤ (n : Int)) := by omega
        have d4 : ¬ ((n : Int) ≤ 90) := by omega
        have d5 : ((48 : Int) ≤ (n : Int)) := by omega
        have d6 : ¬ ((n : Int) ≤ 57) := by omega
        have d7 : ¬ ((n : Int) ≤ 32) := by omega
        have d8 : ¬ ((126 : Int) < (n : Int)) := by omega
        have HI := Lib.hid h
        clear h HX hx
        go_wp2_with (fail)
        go_meet
        exact ⟨true, rfl, fun _ => isSign_no (by have := HI.out; omega), rfl⟩
      · have d1 : ((97 : Int) ≤ (n : Int)) := by omega
        have d2 : ¬ ((n : Int) ≤ 122) := by omega
        have d3 : ((65 : Int) ≤ (n : Int)) := by omega
        have d4 : ¬ ((n : Int) ≤ 90) := by omega
        have d5 : ((48 : Int) ≤ (n : Int)) := by omega
        have d6 : ¬ ((n : Int) ≤ 57) := by omega
        have d7 : ¬ ((n : Int) ≤ 32) := by omega
        have d8 : ¬ ((126 : Int) < (n : Int)) := by omega
        have HI := Lib.hid h
        clear h HX hx
        go_wp2_with (fail)
        go_meet
        exact ⟨false, rfl, fun h => (by cases h), rfl⟩
      · have d1 : ((97 : Int) ≤ (n : Int)) := by omega
        have d2 : ¬ ((n : Int) ≤ 122) := by omega
        have d3 : ((65 : Int) ≤ (n : Int)) := by omega
        have d4 : ¬ ((n : Int) ≤ 90) := by omega
        have d5 : ((48 : Int) ≤ (n : Int)) := by omega
        have d6 : ¬ ((n : Int) ≤ 57) := by omega
        have d7 : ¬ ((n : Int) ≤ 32) := by omega
        have d8 : ((126 : Int) < (n : Int)) := by omega
        have HI := Lib.hid h
        clear h HX hx
        go_wp2_with (fail)
        go_meet
        exact ⟨true, rfl, fun _ => isSign_no (by have := HI.out; omega), rfl⟩
    case rest =>
      obtain ⟨b, rfl, hno, rfl⟩ := hcut
      have HNO := Lib.hid hno
      clear hno
      have q0 := cell_of_row _ g3 0 _ _ _ HO8.out
      have q1 := cell_of_row _ g3 1 _ _ _ HO8.out
      have q2 := cell_of_row _ g3 2 _ _ _ HO8.out
      have q3 := cell_of_row _ g3 3 _ _ _ HO8.out
      have q4 := cell_of_row _ g3 4 _ _ _ HO8.out
      simp only [List.getElem?_toArray, List.getElem?_cons_zero, List.getElem?_cons_succ] at q0 q1 q2 q3 q4
      cases b
      · go_wp2_with (fail)
        go_ret
        exact ⟨rfl, HB8.out⟩
      · go_wp2_with (fail)
        refine (delimRight ⟨s.a, s.b, x, s.d, s.e⟩ _).mono ?_
        rw [Sgn.good_other (by first | exact HNO.out rfl | exact HNO.out trivial)]
        rintro e W9 ⟨rfl, hb9⟩
        have HB9 : Hid (Below w.heap.size w W9) := Lib.hid (HB8.out.trans (hb9.mono HB8.out.size))
        clear hb9 q0 q1 q2 q3 q4
        go_wp2_with (fail)
        go_ret
        exact ⟨rfl, HB9.out⟩
end Go.Proofs.Ytkniednjchnncab
