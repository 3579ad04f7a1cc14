/- Layer 7: the document's digit, inside and Decode, walked. -/
import Derived.Test.YtecmadodpkfnnaaRef07
namespace Go.Proofs.Ytecmadodpkfnnaa
open Go.RowKit Go.MapKept

theorem hexV_fin : ∀ n : Fin 256, hexV n.val.toUInt8 = if 48 ≤ n.val ∧ n.val ≤ 57 then ((n.val : Nat) : Int) - 48 else if 65 ≤ n.val ∧ n.val ≤ 70 then ((n.val : Nat) : Int) - 55 else -1 := by decide +kernel
theorem hexV_eq (c : UInt8) : hexV c = if 48 ≤ c.toNat ∧ c.toNat ≤ 57 then (c.toNat : Int) - 48 else if 65 ≤ c.toNat ∧ c.toNat ≤ 70 then (c.toNat : Int) - 55 else -1 := by
  have h := hexV_fin ⟨c.toNat, UInt8.toNat_lt c⟩
  simpa using h
set_option maxHeartbeats 4000000 in
set_option maxRecDepth 100000 in
theorem refDigit (c : UInt8) (w : World) : Calls Try.prog 67 #[.int .u8 (c.toNat : Int)] w fun e w' => e = .returned (.int .i64 (hexV c)) ∧ w' = w := by
  have hv := hexV_eq c
  have h256 := UInt8.toNat_lt c
  generalize c.toNat = n at *
  have h : n < 48 ∨ (48 ≤ n ∧ n ≤ 57) ∨ (58 ≤ n ∧ n ≤ 64) ∨ (65 ≤ n ∧ n ≤ 70) ∨ 71 ≤ n := by omega
  rcases h with h | h | h | h | h
  · have d1 : ¬ ((48 : Int) ≤ (n : Int)) := by omega
    have d2 : (n : Int) ≤ 57 := by omega
    have d3 : ¬ ((65 : Int) ≤ (n : Int)) := by omega
    have d4 : (n : Int) ≤ 70 := by omega
    have HV : Hid (hexV c = -1) := Lib.hid (by rw [hv, if_neg (by omega), if_neg (by omega)])
    clear hv h h256
    go_enter Try.func67, Try.ntmps67
    go_wp2
    go_ret
    exact ⟨by rw [HV.out]; rfl, rfl⟩
  · have d1 : (48 : Int) ≤ (n : Int) := by omega
    have d2 : (n : Int) ≤ 57 := by omega
    have d3 : ¬ ((65 : Int) ≤ (n : Int)) := by omega
    have d4 : (n : Int) ≤ 70 := by omega
    have HV : Hid (hexV c = (n : Int) - 48) := Lib.hid (by rw [hv, if_pos (by omega)])
    clear hv h h256
    go_enter Try.func67, Try.ntmps67
    go_wp2
    go_ret
    exact ⟨by rw [HV.out]; rfl, rfl⟩
  · have d1 : (48 : Int) ≤ (n : Int) := by omega
    have d2 : ¬ ((n : Int) ≤ 57) := by omega
    have d3 : ¬ ((65 : Int) ≤ (n : Int)) := by omega
    have d4 : (n : Int) ≤ 70 := by omega
    have HV : Hid (hexV c = -1) := Lib.hid (by rw [hv, if_neg (by omega), if_neg (by omega)])
    clear hv h h256
    go_enter Try.func67, Try.ntmps67
    go_wp2
    go_ret
    exact ⟨by rw [HV.out]; rfl, rfl⟩
  · have d1 : (48 : Int) ≤ (n : Int) := by omega
    have d2 : ¬ ((n : Int) ≤ 57) := by omega
    have d3 : (65 : Int) ≤ (n : Int) := by omega
    have d4 : (n : Int) ≤ 70 := by omega
    have HV : Hid (hexV c = (n : Int) - 55) := Lib.hid (by rw [hv, if_neg (by omega), if_pos (by omega)])
    clear hv h h256
    go_enter Try.func67, Try.ntmps67
    go_wp2
    go_ret
    exact ⟨by rw [HV.out]; rfl, rfl⟩
  · have d1 : (48 : Int) ≤ (n : Int) := by omega
    have d2 : ¬ ((n : Int) ≤ 57) := by omega
    have d3 : (65 : Int) ≤ (n : Int) := by omega
    have d4 : ¬ ((n : Int) ≤ 70) := by omega
    have HV : Hid (hexV c = -1) := Lib.hid (by rw [hv, if_neg (by omega), if_neg (by omega)])
    clear hv h h256
    go_enter Try.func67, Try.ntmps67
    go_wp2
    go_ret
    exact ⟨by rw [HV.out]; rfl, rfl⟩
theorem toList_data (x : ByteArray) : x.toList = x.data.toList := Go.ByteArray.toList_eq x
theorem size_of_list {x : ByteArray} {l : List UInt8} (h : x.data.toList = l) : x.size = l.length := by rw [← h]; simp

set_option maxHeartbeats 4000000 in
set_option maxRecDepth 100000 in
theorem refInside_70 (x : ByteArray) (h : x.data.toList = [70]) (s : Sgn) (w : World) : Calls Try.prog 36 #[.string x, s.v] w (RetI (insideD s x.data.toList) w) := by
  have hr : insideD s x.data.toList = some [s.a] := by rw [h]; simp [insideD, signOf]
  rw [hr]
  have hcv := (Bs.lit (w.alloc (.cells #[u8 s.a, u8 s.b, u8 s.c, u8 s.d, u8 s.e] 23)) [s.a] 5 #[u8 s.a] (w.heap.size + 1) (by simp) rfl rfl (by simp [maxLen])).str (P := Try.prog) 35 5 9 Try.underlying35 Try.underlying5 Try.underlying9
  simp only [List.length_cons, List.length_nil] at hcv
  have HB0 : Hid (Below w.heap.size w ((w.alloc (dobj7 s)).alloc (.cells #[u8 s.a] 5))) := Lib.hid (((Below.refl _ _).alloc (Nat.le_refl _) _).alloc (by simp) _)
  have d70 : (x.toList == [70]) = true := by rw [toList_data, h]; decide
  clear hr h
  go_enter Try.func36, Try.ntmps36
  go_wp2_with (fail)
  go_ret2
  exact ⟨rfl, HB0.out⟩

set_option maxHeartbeats 4000000 in
set_option maxRecDepth 100000 in
theorem refInside_83 (x : ByteArray) (h : x.data.toList = [83]) (s : Sgn) (w : World) : Calls Try.prog 36 #[.string x, s.v] w (RetI (insideD s x.data.toList) w) := by
  have hr : insideD s x.data.toList = some [s.b] := by rw [h]; simp [insideD, signOf]
  rw [hr]
  have hcv := (Bs.lit (w.alloc (.cells #[u8 s.a, u8 s.b, u8 s.c, u8 s.d, u8 s.e] 23)) [s.b] 5 #[u8 s.b] (w.heap.size + 1) (by simp) rfl rfl (by simp [maxLen])).str (P := Try.prog) 35 5 9 Try.underlying35 Try.underlying5 Try.underlying9
  simp only [List.length_cons, List.length_nil] at hcv
  have HB0 : Hid (Below w.heap.size w ((w.alloc (dobj7 s)).alloc (.cells #[u8 s.b] 5))) := Lib.hid (((Below.refl _ _).alloc (Nat.le_refl _) _).alloc (by simp) _)
  have d70 : (x.toList == [70]) = false := by rw [toList_data, h]; decide
  have d83 : (x.toList == [83]) = true := by rw [toList_data, h]; decide
  clear hr h
  go_enter Try.func36, Try.ntmps36
  go_wp2_with (fail)
  go_ret2
  exact ⟨rfl, HB0.out⟩

set_option maxHeartbeats 4000000 in
set_option maxRecDepth 100000 in
theorem refInside_84 (x : ByteArray) (h : x.data.toList = [84]) (s : Sgn) (w : World) : Calls Try.prog 36 #[.string x, s.v] w (RetI (insideD s x.data.toList) w) := by
  have hr : insideD s x.data.toList = some [s.e] := by rw [h]; simp [insideD, signOf]
  rw [hr]
  have hcv := (Bs.lit (w.alloc (.cells #[u8 s.a, u8 s.b, u8 s.c, u8 s.d, u8 s.e] 23)) [s.e] 5 #[u8 s.e] (w.heap.size + 1) (by simp) rfl rfl (by simp [maxLen])).str (P := Try.prog) 35 5 9 Try.underlying35 Try.underlying5 Try.underlying9
  simp only [List.length_cons, List.length_nil] at hcv
  have HB0 : Hid (Below w.heap.size w ((w.alloc (dobj7 s)).alloc (.cells #[u8 s.e] 5))) := Lib.hid (((Below.refl _ _).alloc (Nat.le_refl _) _).alloc (by simp) _)
  have d70 : (x.toList == [70]) = false := by rw [toList_data, h]; decide
  have d83 : (x.toList == [83]) = false := by rw [toList_data, h]; decide
  have d84 : (x.toList == [84]) = true := by rw [toList_data, h]; decide
  clear hr h
  go_enter Try.func36, Try.ntmps36
  go_wp2_with (fail)
  go_ret2
  exact ⟨rfl, HB0.out⟩

set_option maxHeartbeats 4000000 in
set_option maxRecDepth 100000 in
theorem refInside_82 (x : ByteArray) (h : x.data.toList = [82]) (s : Sgn) (w : World) : Calls Try.prog 36 #[.string x, s.v] w (RetI (insideD s x.data.toList) w) := by
  have hr : insideD s x.data.toList = some [s.c] := by rw [h]; simp [insideD, signOf]
  rw [hr]
  have hcv := (Bs.lit (w.alloc (.cells #[u8 s.a, u8 s.b, u8 s.c, u8 s.d, u8 s.e] 23)) [s.c] 5 #[u8 s.c] (w.heap.size + 1) (by simp) rfl rfl (by simp [maxLen])).str (P := Try.prog) 35 5 9 Try.underlying35 Try.underlying5 Try.underlying9
  simp only [List.length_cons, List.length_nil] at hcv
  have HB0 : Hid (Below w.heap.size w ((w.alloc (dobj7 s)).alloc (.cells #[u8 s.c] 5))) := Lib.hid (((Below.refl _ _).alloc (Nat.le_refl _) _).alloc (by simp) _)
  have d70 : (x.toList == [70]) = false := by rw [toList_data, h]; decide
  have d83 : (x.toList == [83]) = false := by rw [toList_data, h]; decide
  have d84 : (x.toList == [84]) = false := by rw [toList_data, h]; decide
  have d82 : (x.toList == [82]) = true := by rw [toList_data, h]; decide
  clear hr h
  go_enter Try.func36, Try.ntmps36
  go_wp2_with (fail)
  go_ret2
  exact ⟨rfl, HB0.out⟩

set_option maxHeartbeats 4000000 in
set_option maxRecDepth 100000 in
theorem refInside_69 (x : ByteArray) (h : x.data.toList = [69]) (s : Sgn) (w : World) : Calls Try.prog 36 #[.string x, s.v] w (RetI (insideD s x.data.toList) w) := by
  have hr : insideD s x.data.toList = some [s.d] := by rw [h]; simp [insideD, signOf]
  rw [hr]
  have hcv := (Bs.lit (w.alloc (.cells #[u8 s.a, u8 s.b, u8 s.c, u8 s.d, u8 s.e] 23)) [s.d] 5 #[u8 s.d] (w.heap.size + 1) (by simp) rfl rfl (by simp [maxLen])).str (P := Try.prog) 35 5 9 Try.underlying35 Try.underlying5 Try.underlying9
  simp only [List.length_cons, List.length_nil] at hcv
  have HB0 : Hid (Below w.heap.size w ((w.alloc (dobj7 s)).alloc (.cells #[u8 s.d] 5))) := Lib.hid (((Below.refl _ _).alloc (Nat.le_refl _) _).alloc (by simp) _)
  have d70 : (x.toList == [70]) = false := by rw [toList_data, h]; decide
  have d83 : (x.toList == [83]) = false := by rw [toList_data, h]; decide
  have d84 : (x.toList == [84]) = false := by rw [toList_data, h]; decide
  have d82 : (x.toList == [82]) = false := by rw [toList_data, h]; decide
  have d69 : (x.toList == [69]) = true := by rw [toList_data, h]; decide
  clear hr h
  go_enter Try.func36, Try.ntmps36
  go_wp2_with (fail)
  go_ret2
  exact ⟨rfl, HB0.out⟩

theorem inside_bad (s : Sgn) (x : ByteArray) (n70 : x.data.toList ≠ [70]) (n83 : x.data.toList ≠ [83]) (n84 : x.data.toList ≠ [84]) (n82 : x.data.toList ≠ [82]) (n69 : x.data.toList ≠ [69]) (hb : x.size < 3 ∨ x.size % 2 = 0 ∨ x.data.toList.getD 0 0 ≠ 88) : insideD s x.data.toList = none := by
  have hl : x.data.toList.length = x.size := by simp
  unfold insideD
  by_cases h1 : x.data.toList.length = 1
  · rw [if_pos h1]
    obtain ⟨c, hc⟩ : ∃ c, x.data.toList = [c] := List.length_eq_one_iff.1 h1
    rw [hc] at n70 n83 n84 n82 n69 ⊢
    simp at n70 n83 n84 n82 n69
    simp [signOf, n70, n83, n84, n82, n69]
  · rw [if_neg h1, if_pos (by rw [hl]; exact hb)]

set_option maxHeartbeats 4000000 in
set_option maxRecDepth 100000 in
theorem refInside_bad (x : ByteArray) (hxm : x.size ≤ 1000000) (n70 : x.data.toList ≠ [70]) (n83 : x.data.toList ≠ [83]) (n84 : x.data.toList ≠ [84]) (n82 : x.data.toList ≠ [82]) (n69 : x.data.toList ≠ [69]) (hb : x.size < 3 ∨ x.size % 2 = 0 ∨ x.data.toList.getD 0 0 ≠ 88) (s : Sgn) (w : World) : Calls Try.prog 36 #[.string x, s.v] w (RetI (insideD s x.data.toList) w) := by
  rw [inside_bad s x n70 n83 n84 n82 n69 hb]
  have d70 : (x.toList == [70]) = false := by rw [toList_data, beq_eq_false_iff_ne]; exact n70
  have d83 : (x.toList == [83]) = false := by rw [toList_data, beq_eq_false_iff_ne]; exact n83
  have d84 : (x.toList == [84]) = false := by rw [toList_data, beq_eq_false_iff_ne]; exact n84
  have d82 : (x.toList == [82]) = false := by rw [toList_data, beq_eq_false_iff_ne]; exact n82
  have d69 : (x.toList == [69]) = false := by rw [toList_data, beq_eq_false_iff_ne]; exact n69
  clear n70 n83 n84 n82 n69
  have HB0 : Hid (Below w.heap.size w (w.alloc (dobj7 s))) := Lib.hid ((Below.refl _ _).alloc (Nat.le_refl _) _)
  by_cases h3 : x.size < 3
  · clear hb
    have e3 : decide ((x.size : Int) < 3) = true := by rw [decide_eq_true_iff]; omega
    go_enter Try.func36, Try.ntmps36
    go_wp2_with (fail)
    go_ret2
    exact ⟨rfl, HB0.out⟩
  have e3 : decide ((x.size : Int) < 3) = false := by rw [decide_eq_false_iff_not]; omega
  by_cases h2 : x.size % 2 = 0
  · clear hb
    have e2 : ((x.size : Int) % 2 == 0) = true := by rw [beq_iff_eq]; omega
    clear h2
    go_enter Try.func36, Try.ntmps36
    go_wp2_with (fail)
    go_ret2
    exact ⟨rfl, HB0.out⟩
  have e2 : ((x.size : Int) % 2 == 0) = false := by rw [beq_eq_false_iff_ne]; omega
  have h0 : 0 < x.size := by omega
  have h88 : x[0] ≠ 88 := by
    rcases hb with h | h | h
    · exact absurd h h3
    · exact absurd h h2
    · rwa [getD_idx x 0 h0] at h
  have e88 : ((x[0].toNat : Int) != 88) = true := by
    rw [bne_iff_ne]
    intro h
    exact h88 (UInt8.toNat_inj.1 (by simpa using (by omega : x[0].toNat = 88)))
  clear hb h2 h88
  go_enter Try.func36, Try.ntmps36
  go_wp2_with (fail)
  go_ret2
  exact ⟨rfl, HB0.out⟩

set_option maxHeartbeats 4000000 in
set_option maxRecDepth 100000 in
theorem refInside_hex (x : ByteArray) (hxm : x.size ≤ 1000000) (h3 : 3 ≤ x.size) (h2 : x.size % 2 = 1) (h88 : x.data.toList.getD 0 0 = 88) (s : Sgn) (w : World) : Calls Try.prog 36 #[.string x, s.v] w (RetI (insideD s x.data.toList) w) := by
  have hr : insideD s x.data.toList = pairsD (x.data.toList.drop 1) := by
    unfold insideD
    rw [if_neg (by simp; omega), if_neg]
    simp only [not_or, ne_eq, Decidable.not_not]
    exact ⟨by simp; omega, by simp; omega, h88⟩
  rw [hr]
  have hxs : x.data.toList.length = x.size := by simp
  have d70 : (x.toList == [70]) = false := by rw [toList_data, beq_eq_false_iff_ne]; intro e; rw [e] at hxs; simp at hxs; omega
  have d83 : (x.toList == [83]) = false := by rw [toList_data, beq_eq_false_iff_ne]; intro e; rw [e] at hxs; simp at hxs; omega
  have d84 : (x.toList == [84]) = false := by rw [toList_data, beq_eq_false_iff_ne]; intro e; rw [e] at hxs; simp at hxs; omega
  have d82 : (x.toList == [82]) = false := by rw [toList_data, beq_eq_false_iff_ne]; intro e; rw [e] at hxs; simp at hxs; omega
  have d69 : (x.toList == [69]) = false := by rw [toList_data, beq_eq_false_iff_ne]; intro e; rw [e] at hxs; simp at hxs; omega
  have h0 : 0 < x.size := by omega
  have e3 : decide ((x.size : Int) < 3) = false := by rw [decide_eq_false_iff_not]; omega
  have e2 : ((x.size : Int) % 2 == 0) = false := by rw [beq_eq_false_iff_ne]; omega
  have e88 : ((x[0].toNat : Int) != 88) = false := by
    rw [getD_idx x 0 h0] at h88
    rw [h88]; rfl
  have H2 := Lib.hid h2
  have HO0 : Hid (Own 5 ((w.alloc (dobj7 s)).alloc (.cells #[] 5)) w.heap.size (.slice (some ⟨w.heap.size + 1, 0, none⟩) 0 0) []) := Lib.hid (by
    have := Own.lit 5 (base := w.heap.size) (w.alloc (dobj7 s)) [] (by simp) (by simp [maxLen])
    simpa using this)
  have HB0 : Hid (Below w.heap.size w ((w.alloc (dobj7 s)).alloc (.cells #[] 5))) := Lib.hid (((Below.refl _ _).alloc (Nat.le_refl _) _).alloc (by simp) _)
  clear hr h88 h2 hxs
  go_enter Try.func36, Try.ntmps36
  go_wp2_with (fail)
  go_loopw [7, 6, 8, 9] (fun i v _ _ wr => ∃ (q : Nat) (out : List UInt8), 1 + 2 * q ≤ x.size ∧ i = .int .i64 ((1 + 2 * q : Nat) : Int) ∧ Own 5 wr w.heap.size v out ∧ Below w.heap.size w wr ∧ out.length = q ∧ pairsD (x.data.toList.drop 1) = (pairsD (x.data.toList.drop (1 + 2 * q))).map (out ++ ·)) (fun i _ _ _ _ => x.size - (intOf i).toNat)
  case atStart => exact ⟨0, [], by omega, rfl, HO0.out, HB0.out, rfl, by simp⟩
  case round =>
    clear HO0 HB0
    obtain ⟨q, out, hq, rfl, ho, hb, hol, hp⟩ := hrel
    obtain ⟨i, hi⟩ : ∃ i, i = 1 + 2 * q := ⟨_, rfl⟩
    rw [← hi] at hq hp
    have HI := Lib.hid hi
    rw [show (((1 + 2 * q : Nat)) : Int) = (i : Int) from by omega]
    have HO := Lib.hid ho
    have HB := Lib.hid hb
    have HP := Lib.hid hp
    have HOL := Lib.hid hol
    clear hb hp hi hol ho
    by_cases hlt : i < x.size
    · have hi1 : i + 1 < x.size := by have := H2.out; have := HI.out; omega
      have ei : (i : Int) < (x.size : Int) := by omega
      have hw1 : IntKind.i64.wrap ((i : Int) + 1) = (i : Int) + 1 := IntWalk.i64_in _ (by omega)
      have ix1 := fun W => strIdx x i hlt (i : Int) rfl W
      have ix2 := fun W => strIdx x (i + 1) hi1 ((i : Int) + 1) (by omega) W
      have HP2 := Lib.hid (pairsD_two x.data.toList i (by simpa using hi1))
      rw [getD_idx x i hlt, getD_idx x (i + 1) hi1] at HP2
      have hba := hexV_bd x[i]
      have hbb := hexV_bd x[i + 1]
      by_cases hbad : hexV x[i] < 0 ∨ hexV x[i + 1] < 0
      · have HN : Hid (pairsD (x.data.toList.drop 1) = none) := Lib.hid (by rw [HP.out, HP2.out, if_pos hbad]; rfl)
        by_cases ha : hexV x[i] < 0
        · clear hbad hba hbb
          go_wp2_with (fail)
          refine (refDigit x[i] wr).mono ?_
          rintro e w2 ⟨rfl, rfl⟩
          go_wp2_with (fail)
          refine (refDigit x[i + 1] _).mono ?_
          rintro e w3 ⟨rfl, rfl⟩
          go_wp2_with (fail)
          go_ret2
          exact ⟨by rw [HN.out]; rfl, HB.out⟩
        · have hb0 : hexV x[i + 1] < 0 := by omega
          clear hbad hba hbb
          go_wp2_with (fail)
          refine (refDigit x[i] wr).mono ?_
          rintro e w2 ⟨rfl, rfl⟩
          go_wp2_with (fail)
          refine (refDigit x[i + 1] _).mono ?_
          rintro e w3 ⟨rfl, rfl⟩
          go_wp2_with (fail)
          go_ret2
          exact ⟨by rw [HN.out]; rfl, HB.out⟩
      · have ha : 0 ≤ hexV x[i] := by omega
        have hb0 : 0 ≤ hexV x[i + 1] := by omega
        have hwr : wrap64 (16 * hexV x[i]) = 16 * hexV x[i] := IntWalk.wrap64_in _ (by omega)
        have hws : wrap64 (16 * hexV x[i] + hexV x[i + 1]) = 16 * hexV x[i] + hexV x[i + 1] := IntWalk.wrap64_in _ (by omega)
        have hwr' : IntKind.i64.wrap (16 * hexV x[i]) = 16 * hexV x[i] := IntWalk.i64_in _ (by omega)
        have hws' : IntKind.i64.wrap (16 * hexV x[i] + hexV x[i + 1]) = 16 * hexV x[i] + hexV x[i + 1] := IntWalk.i64_in _ (by omega)
        obtain ⟨z, hz⟩ : ∃ z, z = hexB x[i] x[i + 1] := ⟨_, rfl⟩
        have HV : Hid ((16 * hexV x[i] + hexV x[i + 1]) % 256 = (z.toNat : Int)) := Lib.hid (by
          rw [hz]
          unfold hexB
          obtain ⟨na, hna⟩ : ∃ na : Nat, hexV x[i] = (na : Int) := ⟨(hexV x[i]).toNat, by omega⟩
          obtain ⟨nb, hnb⟩ : ∃ nb : Nat, hexV x[i + 1] = (nb : Int) := ⟨(hexV x[i + 1]).toNat, by omega⟩
          rw [hna, hnb]
          have e : ((na : Int) * 16 + (nb : Int)).toNat = na * 16 + nb := by omega
          rw [e]
          simp
          omega)
        have HN : Hid (pairsD (x.data.toList.drop 1) = (pairsD (x.data.toList.drop (i + 2))).map ((out ++ [z]) ++ ·)) := Lib.hid (by
          rw [HP.out, HP2.out, if_neg hbad, hz]
          cases pairsD (x.data.toList.drop (i + 2)) <;> simp)
        have hvv := HV.out
        clear hbad hba hbb hz
        have tok1 : Hid True := Lib.hid trivial
        go_wp2_with (fail)
        refine (refDigit x[i] wr).mono ?_
        rintro e w2 ⟨rfl, rfl⟩
        go_wp2_with (fail)
        refine (refDigit x[i + 1] _).mono ?_
        rintro e w3 ⟨rfl, rfl⟩
        go_wp2_with (at_builtin; have _t := tok1; go_loud ((refine wpList_app rfl (.tmp 77) (.tmp 83) 35 rfl w.heap.size 5 Try.underlying35 byteInfo _ out rfl (HO.out.alloc _) _ 1 1 [z] rfl (Bs.lit _ [z] 5 _ _ rfl rfl rfl (by simp [maxLen])) (by have := HOL.out; have := HI.out; omega) (by have := HB.out.size; simp; omega) ?_; intro v4 w4 hown4 hb4 hg4; have HO4 := Lib.hid hown4; have HB4 : Hid (Below w.heap.size w w4) := Lib.hid ((HB.out.alloc HB.out.size _).trans hb4); clear tok1 hown4 hb4 hg4 _t)))
        refine ⟨⟨q + 1, out ++ [z], by have := HI.out; omega, congrArg (Value.int .i64) (by have := HI.out; omega), HO4.out, HB4.out, by rw [List.length_append, HOL.out]; rfl, ?_⟩, by simp [intOf]; omega⟩
        rw [show 1 + 2 * (q + 1) = i + 2 from by have := HI.out; omega]
        exact HN.out
    · obtain rfl : i = x.size := by omega
      clear hlt
      have HN : Hid (pairsD (x.data.toList.drop 1) = some out) := Lib.hid (by
        rw [HP.out, List.drop_of_length_le (by simp)]
        simp [pairsD])
      obtain ⟨A, c, rfl, hbs, _⟩ := HO.out.bs
      have hcv := hbs.str (P := Try.prog) 35 5 9 Try.underlying35 Try.underlying5 Try.underlying9
      clear hbs
      go_wp2_with (fail)
      go_ret2
      exact ⟨by rw [HN.out]; rfl, HB.out⟩

theorem refInside (x : ByteArray) (hxm : x.size ≤ 1000000) (s : Sgn) (w : World) : Calls Try.prog 36 #[.string x, s.v] w (RetI (insideD s x.data.toList) w) := by
  by_cases n70 : x.data.toList = [70]
  · exact refInside_70 x n70 s w
  by_cases n83 : x.data.toList = [83]
  · exact refInside_83 x n83 s w
  by_cases n84 : x.data.toList = [84]
  · exact refInside_84 x n84 s w
  by_cases n82 : x.data.toList = [82]
  · exact refInside_82 x n82 s w
  by_cases n69 : x.data.toList = [69]
  · exact refInside_69 x n69 s w
  by_cases hbad : x.size < 3 ∨ x.size % 2 = 0 ∨ x.data.toList.getD 0 0 ≠ 88
  · exact refInside_bad x hxm n70 n83 n84 n82 n69 hbad s w
  · simp only [not_or, ne_eq, Decidable.not_not] at hbad
    exact refInside_hex x hxm (by omega) (by omega) hbad.2.2 s w
end Go.Proofs.Ytecmadodpkfnnaa
