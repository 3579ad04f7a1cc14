/- The document's answer: is it a name, walked. -/
import Derived.Test.YtolomfdommnklaaDk1
namespace Go.Proofs.Ytolomfdommnklaa
open Go.RowKit Go.MapKept

set_option maxHeartbeats 4000000 in
set_option maxRecDepth 100000 in
theorem refName (x : ByteArray) (w : World) (hx : x.size ≤ 140737488355328) : Calls Try.prog 31 #[.string x] w fun e w' => e = .returned (.bool (nameD x)) ∧ w = w' := by
  go_enter Try.func31, Try.ntmps31
  by_cases h1 : x.size < 1
  · have d1 : decide ((x.size : Int) < 1) = true := by simp; omega
    have HN : Hid (nameD x = false) := Lib.hid (by unfold nameD; simp; omega)
    clear h1
    go_wp2
    go_ret
    exact ⟨by rw [HN.out]; rfl, rfl⟩
  have d1 : decide ((x.size : Int) < 1) = false := by simp; omega
  by_cases h2 : 32 < x.size
  · have d2 : decide ((32 : Int) < (x.size : Int)) = true := by simp; omega
    have HN : Hid (nameD x = false) := Lib.hid (by unfold nameD; simp; omega)
    clear h1 h2
    go_wp2
    go_ret
    exact ⟨by rw [HN.out]; rfl, rfl⟩
  have d2 : decide ((32 : Int) < (x.size : Int)) = false := by simp; omega
  have HND : Hid (nameD x = x.data.toList.all nameB) := Lib.hid (by
    unfold nameD
    rw [decide_eq_true (show 1 ≤ x.size by omega), decide_eq_true (show x.size ≤ 32 by omega)]
    simp)
  have H32 : Hid (x.size ≤ 32) := Lib.hid (by omega)
  clear h1 h2
  go_wp2_with (fail)
  go_loopw [3] (fun i wr => ∃ k : Nat, k ≤ x.size ∧ i = .int .i64 k ∧ (x.data.toList.take k).all nameB = true ∧ wr = w) (fun i _ => x.size - (intOf i).toNat)
  case atStart => exact ⟨0, Nat.zero_le _, rfl, rfl, rfl⟩
  case round =>
    obtain ⟨k, hk, rfl, hal, rfl⟩ := hrel
    have HAL := Lib.hid hal
    clear hal
    by_cases hlt : k < x.size
    · have e1 : (k : Int) < (x.size : Int) := by omega
      have e2 : decide ((k : Int) < (x.size : Int)) = true := by simpa using e1
      have HX : Hid (x.data.toList.take (k + 1) = x.data.toList.take k ++ [x[k]]) := Lib.hid (by rw [List.take_succ_eq_append_getElem (by simpa using hlt)]; rfl)
      have HME : Hid (x[k] ∈ x.data.toList) := Lib.hid (List.getElem_mem (l := x.data.toList) (n := k) (by simpa using hlt))
      have HV : Hid (nameB x[k] = ((decide (97 ≤ x[k].toNat) && decide (x[k].toNat ≤ 122)) || (decide (48 ≤ x[k].toNat) && decide (x[k].toNat ≤ 57)) || x[k].toNat == 46)) := Lib.hid rfl
      have HC : Hid (∀ c : Nat, x[k].toNat = c → nameB x[k] = ((decide (97 ≤ c) && decide (c ≤ 122)) || (decide (48 ≤ c) && decide (c ≤ 57)) || c == 46)) := Lib.hid (fun c hc => by rw [HV.out, hc])
      obtain ⟨c, hc⟩ : ∃ c, x[k].toNat = c := ⟨_, rfl⟩
      have HB : Hid (nameB x[k] = ((decide (97 ≤ c) && decide (c ≤ 122)) || (decide (48 ≤ c) && decide (c ≤ 57)) || c == 46)) := Lib.hid (HC.out c hc)
      have HIX : Hid (∀ W : World, (Instr.index 9 (.string x) (.int .i64 (k : Int))).run Try.prog W = .ok (.int .u8 (c : Int)) W) := Lib.hid (fun W => by rw [← hc]; simp [Instr.index, asIntOf, run_underlying Try.underlying9, go_sem, hlt])
      have hix := HIX.out
      clear HV HC
      have hcase : (97 ≤ c ∧ c ≤ 122) ∨ (97 ≤ c ∧ 122 < c) ∨ (c < 97 ∧ 48 ≤ c ∧ c ≤ 57) ∨ (c < 97 ∧ 48 ≤ c ∧ 57 < c) ∨ (c < 48 ∧ c = 46) ∨ (c < 48 ∧ c ≠ 46) := by omega
      clear hc
      rcases hcase with h | h | h | h | h | h

      · have hb : nameB x[k] = true := by rw [HB.out]; simp; omega
        have f0 : decide ((97 : Int) ≤ (c : Int)) = true := by simp; omega
        have f1 : decide ((c : Int) ≤ 122) = true := by simp; omega
        have HBB := Lib.hid hb
        clear hb h
        go_wp2_with (fail)
        exact ⟨⟨k + 1, by omega, by go_num, by rw [HX.out, List.all_append, HAL.out]; simp [HBB.out], trivial⟩, by simp [intOf]; omega⟩
      · have hb : nameB x[k] = false := by rw [HB.out]; simp; omega
        have f0 : decide ((97 : Int) ≤ (c : Int)) = true := by simp; omega
        have f1 : decide ((c : Int) ≤ 122) = false := by simp; omega
        have f2 : decide ((48 : Int) ≤ (c : Int)) = true := by simp; omega
        have f3 : decide ((c : Int) ≤ 57) = false := by simp; omega
        have g1 : ((c : Int) != 46) = true := by simp; omega
        have HN : Hid (nameD x = false) := Lib.hid (by rw [HND.out, List.all_eq_false]; exact ⟨x[k], HME.out, by rw [hb]; decide⟩)
        clear hb h
        go_wp2_with (fail)
        go_ret
        exact ⟨by rw [HN.out]; rfl, rfl⟩
      · have hb : nameB x[k] = true := by rw [HB.out]; simp; omega
        have f0 : decide ((97 : Int) ≤ (c : Int)) = false := by simp; omega
        have f1 : decide ((48 : Int) ≤ (c : Int)) = true := by simp; omega
        have f2 : decide ((c : Int) ≤ 57) = true := by simp; omega
        have HBB := Lib.hid hb
        clear hb h
        go_wp2_with (fail)
        exact ⟨⟨k + 1, by omega, by go_num, by rw [HX.out, List.all_append, HAL.out]; simp [HBB.out], trivial⟩, by simp [intOf]; omega⟩
      · have hb : nameB x[k] = false := by rw [HB.out]; simp; omega
        have f0 : decide ((97 : Int) ≤ (c : Int)) = false := by simp; omega
        have f1 : decide ((48 : Int) ≤ (c : Int)) = true := by simp; omega
        have f2 : decide ((c : Int) ≤ 57) = false := by simp; omega
        have g1 : ((c : Int) != 46) = true := by simp; omega
        have HN : Hid (nameD x = false) := Lib.hid (by rw [HND.out, List.all_eq_false]; exact ⟨x[k], HME.out, by rw [hb]; decide⟩)
        clear hb h
        go_wp2_with (fail)
        go_ret
        exact ⟨by rw [HN.out]; rfl, rfl⟩
      · have hb : nameB x[k] = true := by rw [HB.out]; simp; omega
        have f0 : decide ((97 : Int) ≤ (c : Int)) = false := by simp; omega
        have f1 : decide ((48 : Int) ≤ (c : Int)) = false := by simp; omega
        have g1 : ((c : Int) != 46) = false := by simp; omega
        have HBB := Lib.hid hb
        clear hb h
        go_wp2_with (fail)
        exact ⟨⟨k + 1, by omega, by go_num, by rw [HX.out, List.all_append, HAL.out]; simp [HBB.out], trivial⟩, by simp [intOf]; omega⟩
      · have hb : nameB x[k] = false := by rw [HB.out]; simp; omega
        have f0 : decide ((97 : Int) ≤ (c : Int)) = false := by simp; omega
        have f1 : decide ((48 : Int) ≤ (c : Int)) = false := by simp; omega
        have g1 : ((c : Int) != 46) = true := by simp; omega
        have HN : Hid (nameD x = false) := Lib.hid (by rw [HND.out, List.all_eq_false]; exact ⟨x[k], HME.out, by rw [hb]; decide⟩)
        clear hb h
        go_wp2_with (fail)
        go_ret
        exact ⟨by rw [HN.out]; rfl, rfl⟩
    · obtain rfl : k = x.size := by omega
      have e2 : decide ((x.size : Int) < (x.size : Int)) = false := by simp
      have HN : Hid (nameD x = true) := Lib.hid (by have h1 := HAL.out; rw [List.take_of_length_le (by simp)] at h1; rw [HND.out]; exact h1)
      clear hlt
      go_wp2_with (fail)
      go_ret
      exact ⟨by rw [HN.out]; rfl, rfl⟩
end Go.Proofs.Ytolomfdommnklaa
