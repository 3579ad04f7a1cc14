/- The document's answer of layer 6: signs, walked. -/
import Derived.Test.YtgffamdlnacamaaDoorDelim4
import Derived.Test.YtgffamdlnacamaaDoorConv
import Derived.Test.YtgffamdlnacamaaDoorDelimMath
namespace Go.Proofs.YtgffamdlnacamaaDoor
open Go.RowKit

set_option maxRecDepth 100000 in
theorem refSign (n : Nat) (w : World) : Calls Tryd.prog 94 #[.int .u8 (n : Int)] w fun e w' => e = .returned (.bool (isSign n)) ∧ w = w' := by
  have h : n ≤ 32 ∨ (33 ≤ n ∧ n ≤ 47) ∨ (48 ≤ n ∧ n ≤ 57) ∨ (58 ≤ n ∧ n ≤ 64) ∨ (65 ≤ n ∧ n ≤ 90) ∨ (91 ≤ n ∧ n ≤ 96) ∨ (97 ≤ n ∧ n ≤ 122) ∨ (123 ≤ n ∧ n ≤ 126) ∨ 127 ≤ n := by omega
  rcases h with h | h | h | h | h | h | h | h | h
  · rw [isSign_no (by omega)]
    have d1 : ¬ ((97 : Int) ≤ (n : Int)) := by omega
    have d2 : ((n : Int) ≤ 122) := by omega
    have d3 : ¬ ((65 : Int) ≤ (n : Int)) := by omega
    have d4 : ((n : Int) ≤ 90) := by omega
    have d5 : ¬ ((48 : Int) ≤ (n : Int)) := by omega
    have d6 : ((n : Int) ≤ 57) := by omega
    have d7 : ¬ ((33 : Int) ≤ (n : Int)) := by omega
    have d8 : ((n : Int) ≤ 126) := by omega
    clear h
    go_enter Tryd.func94, Tryd.ntmps94
    go_wp2
    go_ret
    exact ⟨rfl, rfl⟩
  · rw [isSign_yes (by omega) (by omega) (by omega) (by omega) (by omega)]
    have d1 : ¬ ((97 : Int) ≤ (n : Int)) := by omega
    have d2 : ((n : Int) ≤ 122) := by omega
    have d3 : ¬ ((65 : Int) ≤ (n : Int)) := by omega
    have d4 : ((n : Int) ≤ 90) := by omega
    have d5 : ¬ ((48 : Int) ≤ (n : Int)) := by omega
    have d6 : ((n : Int) ≤ 57) := by omega
    have d7 : ((33 : Int) ≤ (n : Int)) := by omega
    have d8 : ((n : Int) ≤ 126) := by omega
    clear h
    go_enter Tryd.func94, Tryd.ntmps94
    go_wp2
    go_ret
    exact ⟨rfl, rfl⟩
  · rw [isSign_no (by omega)]
    have d1 : ¬ ((97 : Int) ≤ (n : Int)) := by omega
    have d2 : ((n : Int) ≤ 122) := by omega
    have d3 : ¬ ((65 : Int) ≤ (n : Int)) := by omega
    have d4 : ((n : Int) ≤ 90) := by omega
    have d5 : ((48 : Int) ≤ (n : Int)) := by omega
    have d6 : ((n : Int) ≤ 57) := by omega
    have d7 : ((33 : Int) ≤ (n : Int)) := by omega
    have d8 : ((n : Int) ≤ 126) := by omega
    clear h
    go_enter Tryd.func94, Tryd.ntmps94
    go_wp2
    go_ret
    exact ⟨rfl, rfl⟩
  · rw [isSign_yes (by omega) (by omega) (by omega) (by omega) (by omega)]
    have d1 : ¬ ((97 : Int) ≤ (n : Int)) := by omega
    have d2 : ((n : Int) ≤ 122) := by omega
    have d3 : ¬ ((65 : Int) ≤ (n : Int)) := by omega
    have d4 : ((n : Int) ≤ 90) := by omega
    have d5 : ((48 : Int) ≤ (n : Int)) := by omega
    have d6 : ¬ ((n : Int) ≤ 57) := by omega
    have d7 : ((33 : Int) ≤ (n : Int)) := by omega
    have d8 : ((n : Int) ≤ 126) := by omega
    clear h
    go_enter Tryd.func94, Tryd.ntmps94
    go_wp2
    go_ret
    exact ⟨rfl, rfl⟩
  · rw [isSign_no (by omega)]
    have d1 : ¬ ((97 : Int) ≤ (n : Int)) := by omega
    have d2 : ((n : Int) ≤ 122) := by omega
    have d3 : ((65 : Int) ≤ (n : Int)) := by omega
    have d4 : ((n : Int) ≤ 90) := by omega
    have d5 : ((48 : Int) ≤ (n : Int)) := by omega
    have d6 : ¬ ((n : Int) ≤ 57) := by omega
    have d7 : ((33 : Int) ≤ (n : Int)) := by omega
    have d8 : ((n : Int) ≤ 126) := by omega
    clear h
    go_enter Tryd.func94, Tryd.ntmps94
    go_wp2
    go_ret
    exact ⟨rfl, rfl⟩
  · rw [isSign_yes (by omega) (by omega) (by omega) (by omega) (by omega)]
    have d1 : ¬ ((97 : Int) ≤ (n : Int)) := by omega
    have d2 : ((n : Int) ≤ 122) := by omega
    have d3 : ((65 : Int) ≤ (n : Int)) := by omega
    have d4 : ¬ ((n : Int) ≤ 90) := by omega
    have d5 : ((48 : Int) ≤ (n : Int)) := by omega
    have d6 : ¬ ((n : Int) ≤ 57) := by omega
    have d7 : ((33 : Int) ≤ (n : Int)) := by omega
    have d8 : ((n : Int) ≤ 126) := by omega
    clear h
    go_enter Tryd.func94, Tryd.ntmps94
    go_wp2
    go_ret
    exact ⟨rfl, rfl⟩
  · rw [isSign_no (by omega)]
    have d1 : ((97 : Int) ≤ (n : Int)) := by omega
    have d2 : ((n : Int) ≤ 122) := by omega
    have d3 : ((65 : Int) ≤ (n : Int)) := by omega
    have d4 : ¬ ((n : Int) ≤ 90) := by omega
    have d5 : ((48 : Int) ≤ (n : Int)) := by omega
    have d6 : ¬ ((n : Int) ≤ 57) := by omega
    have d7 : ((33 : Int) ≤ (n : Int)) := by omega
    have d8 : ((n : Int) ≤ 126) := by omega
    clear h
    go_enter Tryd.func94, Tryd.ntmps94
    go_wp2
    go_ret
    exact ⟨rfl, rfl⟩
  · rw [isSign_yes (by omega) (by omega) (by omega) (by omega) (by omega)]
    have d1 : ((97 : Int) ≤ (n : Int)) := by omega
    have d2 : ¬ ((n : Int) ≤ 122) := by omega
    have d3 : ((65 : Int) ≤ (n : Int)) := by omega
    have d4 : ¬ ((n : Int) ≤ 90) := by omega
    have d5 : ((48 : Int) ≤ (n : Int)) := by omega
    have d6 : ¬ ((n : Int) ≤ 57) := by omega
    have d7 : ((33 : Int) ≤ (n : Int)) := by omega
    have d8 : ((n : Int) ≤ 126) := by omega
    clear h
    go_enter Tryd.func94, Tryd.ntmps94
    go_wp2
    go_ret
    exact ⟨rfl, rfl⟩
  · rw [isSign_no (by omega)]
    have d1 : ((97 : Int) ≤ (n : Int)) := by omega
    have d2 : ¬ ((n : Int) ≤ 122) := by omega
    have d3 : ((65 : Int) ≤ (n : Int)) := by omega
    have d4 : ¬ ((n : Int) ≤ 90) := by omega
    have d5 : ((48 : Int) ≤ (n : Int)) := by omega
    have d6 : ¬ ((n : Int) ≤ 57) := by omega
    have d7 : ((33 : Int) ≤ (n : Int)) := by omega
    have d8 : ¬ ((n : Int) ≤ 126) := by omega
    clear h
    go_enter Tryd.func94, Tryd.ntmps94
    go_wp2
    go_ret
    exact ⟨rfl, rfl⟩

def RetFive (s : Sgn) (w : World) (e : Ending) (w' : World) : Prop := ∃ A, e = .returned (.slice A 5 5) ∧ Bs w' A 5 5 s.l ∧ Below w.heap.size w w'
set_option maxRecDepth 100000 in
theorem refFive (s : Sgn) (w : World) : Calls Tryd.prog 93 #[s.v] w (RetFive s w) := by
  go_enter Tryd.func93, Tryd.ntmps93
  go_wp2
  go_ret
  exact ⟨_, rfl, Bs.lit _ s.l 5 _ _ (by simp) rfl rfl (by simp [maxLen, Sgn.l]), ((Below.refl _ w).alloc (Nat.le_refl _) _).alloc (by simp) _⟩

theorem notin_iff (l : List UInt8) (j : Nat) (x : UInt8) (hj : j ≤ l.length) (h : ∀ t, t < j → l.getD t 0 ≠ x) : (l.take j).contains x = false := by
  rw [← Bool.not_eq_true, List.contains_iff_mem]
  intro hm
  obtain ⟨t, ht, e⟩ := List.mem_take_iff_getElem.1 hm
  refine h t (by omega) ?_
  rw [List.getD_eq_getElem?_getD, List.getElem?_eq_getElem (by omega)]
  exact e
theorem in_iff (l : List UInt8) (j t : Nat) (x : UInt8) (hj : j ≤ l.length) (ht : t < j) (h : l.getD t 0 = x) : (l.take j).contains x = true := by
  rw [List.contains_iff_mem]
  refine List.mem_take_iff_getElem.2 ⟨t, by omega, ?_⟩
  rw [List.getD_eq_getElem?_getD, List.getElem?_eq_getElem (by omega)] at h
  exact h

set_option maxHeartbeats 1000000 in
set_option maxRecDepth 100000 in
theorem refRight (s : Sgn) (w : World) : Calls Tryd.prog 81 #[s.v] w fun e w' => e = .returned (.bool s.good) ∧ Below w.heap.size w w' := by
  have HGO := Lib.hid (show s.good = goodTo s.l 5 from rfl)
  go_enter Tryd.func81, Tryd.ntmps81
  go_wp2_with (fail)
  refine (refFive s _).mono ?_
  rintro e w1 ⟨A, rfl, hBs, hb1⟩
  have HB1 : Hid (Below w.heap.size w w1) := Lib.hid (((Below.refl _ w).alloc (Nat.le_refl _) _).trans (hb1.mono (by simp)))
  have HBs := Lib.hid hBs
  clear hb1 hBs
  go_wp2_with (fail)
  go_loopw [4, 5] (fun i _ wr => ∃ j : Nat, j ≤ 5 ∧ i = .int .i64 j ∧ goodTo s.l j = true ∧ Bs wr A 5 5 s.l ∧ Below w.heap.size w wr) (fun i _ _ => 5 - (intOf i).toNat)
  case atStart => exact ⟨0, Nat.zero_le _, rfl, rfl, HBs.out, HB1.out⟩
  case round =>
    obtain ⟨j, hj, rfl, hgo, hbs, hbw⟩ := hrel
    have HGJ := Lib.hid hgo
    have HBS := Lib.hid hbs
    have HBW := Lib.hid hbw
    clear hgo hbs hbw HBs HB1
    by_cases hlt : j < 5
    · obtain ⟨b, o, rfl, hb, hc⟩ := HBS.out.at_ (by omega)
      have HC := Lib.hid (fun (k : Nat) (hk : k < 5) => (by rw [hc k (s.l.getD k 0) (by rw [List.getD_eq_getElem?_getD, List.getElem?_eq_getElem (show k < s.l.length from hk)]; rfl)] : wr.cell? ⟨b, o + k, none⟩ = some (.int .u8 ((s.l.getD k 0).toNat : Int))))
      clear hc hb
      have hcj := HC.out j hlt
      have HLT := Lib.hid hlt
      have e1 : (j : Int) < 5 := by omega
      have e0 : (0 : Int) ≤ (j : Int) := by omega
      have HNX := Lib.hid (show goodTo s.l (j + 1) = (goodTo s.l j && isSign (s.l.getD j 0).toNat && !((s.l.take j).contains (s.l.getD j 0))) from rfl)
      obtain ⟨y, hy⟩ : ∃ y, y = s.l.getD j 0 := ⟨_, rfl⟩
      rw [← hy] at hcj HNX
      have HY := Lib.hid hy
      clear hy hlt
      rw [HGJ.out] at HNX
      go_wp2_with (fail)
      refine (refSign y.toNat wr).mono ?_
      rintro e w2 ⟨rfl, rfl⟩
      generalize isSign y.toNat = i at *
      cases i
      · go_wp2_with (fail)
        go_ret
        exact ⟨by rw [HGO.out, goodTo_no (j := j) (by rw [HNX.out]; rfl) HLT.out]; rfl, HBW.out⟩
      · go_wp2_with (fail)
        go_loopw [5] (fun k wq => ∃ m : Nat, m ≤ j ∧ k = .int .i64 m ∧ (∀ t, t < m → s.l.getD t 0 ≠ y) ∧ ∃ q, wq = wr.drewN q) (fun k _ => j - (intOf k).toNat)
        case atStart => exact ⟨0, Nat.zero_le _, rfl, fun t ht => by omega, 0, rfl⟩
        case round =>
          obtain ⟨m, hm, rfl, hno, q, rfl⟩ := hrel
          have HNO := Lib.hid hno
          clear hno
          by_cases hlm : m < j
          · have f1 : (m : Int) < (j : Int) := by omega
            have f2 : (0 : Int) ≤ (m : Int) := by omega
            have f3 : (m : Int) < 5 := by omega
            have hcm := HC.out m (by have := HLT.out; omega)
            obtain ⟨z, hz⟩ : ∃ z, z = s.l.getD m 0 := ⟨_, rfl⟩
            rw [← hz] at hcm
            have HZ := Lib.hid hz
            have HLM := Lib.hid hlm
            clear hz hlm
            by_cases hzy : z = y
            · have d : ((z.toNat : Int) == (y.toNat : Int)) = true := by rw [hzy]; exact beq_self_eq_true _
              have HZY := Lib.hid hzy
              clear hzy
              go_wp2_with (fail)
              go_quiet (fail)
              go_wp2_with (fail)
              go_ret
              exact ⟨by rw [HGO.out, goodTo_no (j := j) (by rw [HNX.out, in_iff s.l j m y (by have := HLT.out; show j ≤ 5; omega) HLM.out (by rw [← HZ.out, HZY.out])]; rfl) HLT.out]; rfl, drawN_below (drawN_below HBW.out _) _⟩
            · have d : ((z.toNat : Int) == (y.toNat : Int)) = false := by rw [beq_eq_false_iff_ne]; exact fun h => hzy (UInt8.toNat_inj.1 (by omega))
              have HZY := Lib.hid hzy
              clear hzy
              go_wp2_with (fail)
              go_quiet (fail)
              go_wp2_with (fail)
              go_roundw
              case rel =>
                refine ⟨m + 1, HLM.out, by go_num, fun t ht => ?_, _, by first | rfl | exact World.drewN_drewN ..⟩
                by_cases e : t = m
                · subst e; rw [← HZ.out]; exact HZY.out
                · exact HNO.out t (by omega)
              case measure => have := HLM.out; simp [intOf]; omega
          · obtain rfl : m = j := by omega
            go_wp2_with (fail)
            go_roundw
            case rel => exact ⟨m + 1, HLT.out, by go_num, by rw [HNX.out, notin_iff s.l m y (by have := HLT.out; show m ≤ 5; omega) HNO.out]; rfl, HBS.out.drewN q, drawN_below HBW.out q⟩
            case measure => have := HLT.out; simp [intOf]; omega
    · obtain rfl : j = 5 := by omega
      go_wp2_with (fail)
      go_ret
      exact ⟨by rw [HGO.out, HGJ.out]; rfl, HBW.out⟩
end Go.Proofs.YtgffamdlnacamaaDoor
