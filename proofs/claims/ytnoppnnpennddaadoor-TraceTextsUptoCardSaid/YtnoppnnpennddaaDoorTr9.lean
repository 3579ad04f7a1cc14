/- Layer 19's answers: bytes' texts. -/
import Derived.Test.YtnoppnnpennddaaDoorTr1
import Derived.BigRegion
namespace Go.Proofs.YtnoppnnpennddaaDoor
open Go.RowKit

theorem extL (s : ByteArray) (i j : Nat) : (s.extract i j).data.toList = (s.data.toList.take j).drop i := by
  rw [ByteArray.data_extract, Array.toList_extract, List.extract_eq_take_drop]
  rw [List.drop_take]
theorem txt_appT (a b : List UInt8) : txt a ++ txt b = txt (a ++ b) := by
  apply ByteArray.ext
  simp
theorem dig_ext (k : Nat) (h : k < 16) : (⟨#[48, 49, 50, 51, 52, 53, 54, 55, 56, 57, 97, 98, 99, 100, 101, 102]⟩ : ByteArray).extract k (k + 1) = txt [digL.getD k 0] := by
  have key : ∀ k : Fin 16, (⟨#[48, 49, 50, 51, 52, 53, 54, 55, 56, 57, 97, 98, 99, 100, 101, 102]⟩ : ByteArray).extract k.val (k.val + 1) = txt [digL.getD k.val 0] := by decide +kernel
  exact key ⟨k, h⟩

set_option maxHeartbeats 4000000 in
set_option maxRecDepth 100000 in
theorem refHex (A : Option Addr) (n c : Nat) (l : List UInt8) (w : World) (hB : Bs w A n c l) (hn : n ≤ 100000000) :
    Calls Tryd.prog 19 #[.slice A n c] w fun e w' => e = .returned (str (hexD l)) ∧ Below w.heap.size w w' := by
  have HL := Lib.hid hB.len
  have HN := Lib.hid hn
  by_cases h0 : n = 0
  · subst h0
    obtain rfl := hB.empty
    clear hB
    go_enter Tryd.func19, Tryd.ntmps19
    go_wp2_with (fail)
    go_ret
    exact ⟨rfl, Below.refl _ _⟩
  have HD : Hid (hexD l = l.flatMap hexT) := Lib.hid (if_neg (by intro e; have := hB.len; rw [e] at this; simp at this; omega))
  have en : ((n : Int) == 0) = false := by rw [beq_eq_false_iff_ne]; omega
  obtain ⟨b, o, rfl, hb, hc⟩ := hB.at_ (by omega)
  have HC := Lib.hid hc
  have HBL := Lib.hid hb
  clear hB hc hn hb h0
  go_enter Tryd.func19, Tryd.ntmps19
  go_wp2_with (fail)
  go_loopw [4, 3] (fun i s wr => ∃ k : Nat, k ≤ n ∧ i = .int .i64 k ∧ s = str ((l.take k).flatMap hexT) ∧ Below w.heap.size w wr) (fun i _ _ => n - (intOf i).toNat)
  case atStart => exact ⟨0, by omega, rfl, rfl, Below.refl _ _⟩
  case round =>
    obtain ⟨wo, rfl⟩ : ∃ wo : World, wo = wr := ⟨_, rfl⟩
    obtain ⟨k, hk, rfl, rfl, hb⟩ := hrel
    have HB := Lib.hid hb
    clear hb
    by_cases hlt : k < n
    · have hkl : k < l.length := by have := HL.out; omega
      have hcell : wo.cell? ⟨b, o + k, none⟩ = some (.int .u8 (l[k].toNat : Int)) := (HB.out.cell (p := ⟨b, o + k, none⟩) HBL.out).trans (HC.out k _ (List.getElem?_eq_getElem hkl))
      have hlen : ((l.take k).flatMap hexT).length ≤ 200000000 := by rw [flat_len, List.length_take]; have := HN.out; omega
      have HT : Hid ((l.take (k + 1)).flatMap hexT = (l.take k).flatMap hexT ++ [digL.getD (l[k].toNat / 16) 0] ++ [digL.getD (l[k].toNat % 16) 0]) := Lib.hid (by
        rw [List.take_succ_eq_append_getElem hkl, List.flatMap_append]
        simp [hexT])
      obtain ⟨x, hx⟩ : ∃ x, x = l[k] := ⟨_, rfl⟩
      rw [← hx] at hcell HT
      have hx1 := x.toNat_lt
      obtain ⟨p, hp⟩ : ∃ p : Nat, p = x.toNat / 16 := ⟨_, rfl⟩
      obtain ⟨q, hq⟩ : ∃ q : Nat, q = x.toNat % 16 := ⟨_, rfl⟩
      have ep : (x.toNat : Int) / 16 = (p : Int) := by omega
      have eq : (x.toNat : Int) % 16 = (q : Int) := by omega
      have hp16 : p < 16 := by omega
      have hq16 : q < 16 := by omega
      have hD1 := Lib.hid (dig_ext p hp16)
      have hD2 := Lib.hid (dig_ext q hq16)
      rw [← hp, ← hq] at HT
      have ew1 : IntKind.u8.wrap ((p : Int) + 1) = ((p + 1 : Nat) : Int) := by rw [IntWalk.u8_in _ (by omega)]; omega
      have ew2 : IntKind.u8.wrap ((q : Int) + 1) = ((q + 1 : Nat) : Int) := by rw [IntWalk.u8_in _ (by omega)]; omega
      obtain ⟨S, hS⟩ : ∃ S, S = (l.take k).flatMap hexT := ⟨_, rfl⟩
      rw [← hS] at HT hlen ⊢
      have hw1 : IntKind.i64.wrap ((k : Int) + 1) = (k : Int) + 1 := IntWalk.i64_in _ (by have := HN.out; omega)
      clear hkl hx hx1 hp hq hS
      go_wp2_with (fail)
      go_region
      all_goals
        go_wp2_with (fail)
        refine ⟨⟨k + 1, by omega, by go_num, ?_, HB.out.drew⟩, by simp [intOf]; omega⟩
        rw [hD1.out, hD2.out, txt_appT, txt_appT, HT.out]
    · obtain rfl : k = n := by omega
      have HT : Hid ((l.take k).flatMap hexT = hexD l) := Lib.hid (by rw [HD.out, List.take_of_length_le (by have := HL.out; omega)])
      rw [HT.out]
      clear hlt
      go_wp2_with (fail)
      go_ret
      exact ⟨rfl, HB.out⟩

theorem hexL_val (c : UInt8) : hexL c = if 48 ≤ c.toNat ∧ c.toNat ≤ 57 then (c.toNat : Int) - 48 else if 97 ≤ c.toNat ∧ c.toNat ≤ 102 then (c.toNat : Int) - 87 else -1 := by
  have key : ∀ k : Fin 256, hexL (UInt8.ofNat k.val) = if 48 ≤ k.val ∧ k.val ≤ 57 then (k.val : Int) - 48 else if 97 ≤ k.val ∧ k.val ≤ 102 then (k.val : Int) - 87 else -1 := by decide +kernel
  have := key ⟨c.toNat, c.toNat_lt⟩
  simpa using this
set_option maxHeartbeats 1000000 in
theorem refValue (c : UInt8) (w : World) : Calls Tryd.prog 36 #[.int .u8 (c.toNat : Int)] w fun e w' => e = .returned (.int .i64 (hexL c)) ∧ w' = w := by
  rw [hexL_val]
  obtain ⟨n, hn⟩ : ∃ n, n = c.toNat := ⟨_, rfl⟩
  have hlt := c.toNat_lt
  rw [← hn] at hlt ⊢
  clear hn
  by_cases h1 : 48 ≤ n ∧ n ≤ 57
  · rw [if_pos h1]
    obtain ⟨a1, a2⟩ := h1
    have d1 : decide ((48 : Int) ≤ (n : Int)) = true := by rw [decide_eq_true_iff]; omega
    have d2 : decide ((n : Int) ≤ 57) = true := by rw [decide_eq_true_iff]; omega
    have e1 : IntKind.i64.wrap ((n : Int) - 48) = (n : Int) - 48 := IntWalk.i64_in _ (by omega)
    go_enter Tryd.func36, Tryd.ntmps36
    go_wp2_with (fail)
    go_ret
    exact ⟨rfl, rfl⟩
  rw [if_neg h1]
  have d1 : (decide ((48 : Int) ≤ (n : Int)) && decide ((n : Int) ≤ 57)) = false := by
    rw [Bool.and_eq_false_iff, decide_eq_false_iff_not, decide_eq_false_iff_not]
    omega
  by_cases h2 : 97 ≤ n ∧ n ≤ 102
  · rw [if_pos h2]
    obtain ⟨a1, a2⟩ := h2
    have b1 : decide ((48 : Int) ≤ (n : Int)) = true := by rw [decide_eq_true_iff]; omega
    have b2 : decide ((n : Int) ≤ 57) = false := by rw [decide_eq_false_iff_not]; omega
    have b3 : decide ((97 : Int) ≤ (n : Int)) = true := by rw [decide_eq_true_iff]; omega
    have b4 : decide ((n : Int) ≤ 102) = true := by rw [decide_eq_true_iff]; omega
    have e1 : IntKind.i64.wrap ((n : Int) - 87) = (n : Int) - 87 := IntWalk.i64_in _ (by omega)
    clear h1 d1
    go_enter Tryd.func36, Tryd.ntmps36
    go_wp2_with (fail)
    go_ret
    exact ⟨rfl, rfl⟩
  rw [if_neg h2]
  by_cases c1 : n < 48
  · have b1 : decide ((48 : Int) ≤ (n : Int)) = false := by rw [decide_eq_false_iff_not]; omega
    have b3 : decide ((97 : Int) ≤ (n : Int)) = false := by rw [decide_eq_false_iff_not]; omega
    clear h1 h2 d1
    go_enter Tryd.func36, Tryd.ntmps36
    go_wp2_with (fail)
    go_ret
    exact ⟨rfl, rfl⟩
  have b1 : decide ((48 : Int) ≤ (n : Int)) = true := by rw [decide_eq_true_iff]; omega
  have b2 : decide ((n : Int) ≤ 57) = false := by rw [decide_eq_false_iff_not]; omega
  have c58 : 57 < n := by omega
  by_cases c2 : n < 97
  · have b3 : decide ((97 : Int) ≤ (n : Int)) = false := by rw [decide_eq_false_iff_not]; omega
    clear h1 h2 d1 c1
    go_enter Tryd.func36, Tryd.ntmps36
    go_wp2_with (fail)
    go_ret
    exact ⟨rfl, rfl⟩
  have b3 : decide ((97 : Int) ≤ (n : Int)) = true := by rw [decide_eq_true_iff]; omega
  have b4 : decide ((n : Int) ≤ 102) = false := by rw [decide_eq_false_iff_not]; omega
  have c103 : 102 < n := by omega
  clear h1 h2 d1 c1 c2
  go_enter Tryd.func36, Tryd.ntmps36
  go_wp2_with (fail)
  go_ret
  exact ⟨rfl, rfl⟩

set_option maxHeartbeats 4000000 in
set_option maxRecDepth 100000 in
theorem refBytes19 (x : ByteArray) (w : World) (hx : x.size ≤ 100000000) : Calls Tryd.prog 18 #[.string x] w (RetO (bytesD x.data.toList) w) := by
  by_cases h1 : x.data.toList = [45]
  · have e1 : (x.toList == [45]) = true := by rw [Go.ByteArray.toList_eq, h1]; rfl
    have HE : Hid (bytesD x.data.toList = some []) := Lib.hid (if_pos h1)
    clear h1
    go_enter Tryd.func18, Tryd.ntmps18
    go_wp2_with (fail)
    go_ret2
    rw [HE.out]
    exact ⟨none, 0, 0, rfl, Bs.none_ _, (fun b h => by cases h), Below.refl _ _⟩
  have e1 : (x.toList == [45]) = false := by rw [Go.ByteArray.toList_eq, beq_eq_false_iff_ne]; exact h1
  by_cases h2 : x.data.toList = []
  · have e2 : x.toList.isEmpty = true := by rw [Go.ByteArray.toList_eq, h2]; rfl
    have HE : Hid (bytesD x.data.toList = none) := Lib.hid (by unfold bytesD; rw [if_neg h1, if_pos (.inl h2)])
    clear h1 h2
    go_enter Tryd.func18, Tryd.ntmps18
    go_wp2_with (fail)
    go_ret2
    rw [HE.out]
    exact RetO.none_ (Below.refl _ _)
  have e2 : x.toList.isEmpty = false := by rw [Go.ByteArray.toList_eq]; cases hh : x.data.toList with | nil => exact absurd hh h2 | cons a b => rfl
  by_cases h3 : x.size % 2 = 1
  · have e3 : ((x.size : Int) % 2 == 0) = false := by rw [beq_eq_false_iff_ne]; omega
    have HE : Hid (bytesD x.data.toList = none) := Lib.hid (by unfold bytesD; rw [if_neg h1, if_pos (.inr (by simpa using h3))])
    clear h1 h2 h3
    go_enter Tryd.func18, Tryd.ntmps18
    go_wp2_with (fail)
    go_ret2
    rw [HE.out]
    exact RetO.none_ (Below.refl _ _)
  have e3 : ((x.size : Int) % 2 == 0) = true := by rw [beq_iff_eq]; omega
  have e4 : ((x.size : Int) % 2 != 0) = false := by rw [bne, e3]; rfl
  have HE : Hid (bytesD x.data.toList = pairsL x.data.toList) := Lib.hid (by unfold bytesD; rw [if_neg h1, if_neg]; rintro (h | h); exact h2 h; simp at h; omega)
  obtain ⟨n, hn⟩ : ∃ n, x.size = 2 * n := ⟨x.size / 2, by omega⟩
  have H2 := Lib.hid hn
  have HX := Lib.hid hx
  clear h1 h2 h3 hn e3
  go_enter Tryd.func18, Tryd.ntmps18
  go_wp2_with (fail)
  go_loopw [5, 4, 6, 7] (fun i v _ _ wr => ∃ (k : Nat) (out : List UInt8), k ≤ n ∧ i = .int .i64 ((2 * k : Nat) : Int) ∧ out.length = k ∧ Own 5 wr w.heap.size v out ∧ Below w.heap.size w wr ∧ pairsL x.data.toList = (pairsL (x.data.toList.drop (2 * k))).map (out ++ ·)) (fun i _ _ _ _ => x.size + 1 - (intOf i).toNat)
  case atStart => exact ⟨0, [], by omega, rfl, rfl, Own.nil _ _ _, Below.refl _ _, by simp⟩
  case round =>
    obtain ⟨wo, rfl⟩ : ∃ wo : World, wo = wr := ⟨_, rfl⟩
    obtain ⟨k, out, hk, rfl, hol, hown, hb, hp⟩ := hrel
    have HO := Lib.hid hown
    have HB := Lib.hid hb
    have HP := Lib.hid hp
    have HOL := Lib.hid hol
    clear hown hb hp hol
    obtain ⟨i, hi⟩ : ∃ i, i = 2 * k := ⟨_, rfl⟩
    rw [← hi] at HP ⊢
    have HI := Lib.hid hi
    by_cases hlt : k < n
    · have hi0 : i < x.size := by have := H2.out; omega
      have hi1 : i + 1 < x.size := by have := H2.out; omega
      have hw1 : IntKind.i64.wrap ((i : Int) + 1) = (i : Int) + 1 := IntWalk.i64_in _ (by omega)
      have hw2 : IntKind.i64.wrap ((i : Int) + 2) = (i : Int) + 2 := IntWalk.i64_in _ (by omega)
      have ix1 := fun W => strIx x i hi0 (i : Int) rfl W
      have ix2 := fun W => strIx x (i + 1) hi1 ((i : Int) + 1) (by omega) W
      have HP2 := Lib.hid (pairsL_two x.data.toList i (by simpa using hi1))
      rw [getD_ix x i hi0, getD_ix x (i + 1) hi1] at HP2
      obtain ⟨a, ha⟩ : ∃ a, a = x[i] := ⟨_, rfl⟩
      obtain ⟨b, hb⟩ : ∃ b, b = x[i + 1] := ⟨_, rfl⟩
      rw [← ha] at ix1 HP2
      rw [← hb] at ix2 HP2
      have hba := hexL_bd a
      have hbb := hexL_bd b
      clear ha hb hi
      go_wp2_with (fail)
      refine (refValue a wo).mono ?_
      rintro e w1 ⟨rfl, hw⟩
      obtain rfl := hw.symm
      clear hw
      go_wp2_with (fail)
      refine (refValue b wo).mono ?_
      rintro e w1 ⟨rfl, hw⟩
      obtain rfl := hw.symm
      clear hw
      by_cases hbad : hexL a < 0 ∨ hexL b < 0
      · have HN : Hid (bytesD x.data.toList = none) := Lib.hid (by rw [HE.out, HP.out, HP2.out, if_pos hbad]; rfl)
        by_cases ha : hexL a < 0
        · as_aux_lemma =>
          clear hbad hba hbb
          go_wp2_with (fail)
          go_ret2
          rw [HN.out]
          exact RetO.none_ HB.out
        · have hb0 : hexL b < 0 := by omega
          as_aux_lemma =>
          clear hbad hba hbb
          go_wp2_with (fail)
          go_ret2
          rw [HN.out]
          exact RetO.none_ HB.out
      · as_aux_lemma =>
        have ha : 0 ≤ hexL a := by omega
        have hb0 : 0 ≤ hexL b := by omega
        have HN : Hid (pairsL x.data.toList = (pairsL (x.data.toList.drop (i + 2))).map ((out ++ [hexLB a b]) ++ ·)) := Lib.hid (by
          rw [HP.out, HP2.out, if_neg hbad]
          cases pairsL (x.data.toList.drop (i + 2)) <;> simp)
        obtain ⟨y, hy⟩ : ∃ y, y = hexLB a b := ⟨_, rfl⟩
        rw [← hy] at HN
        obtain ⟨na, hna⟩ : ∃ na : Nat, hexL a = (na : Int) := ⟨(hexL a).toNat, by omega⟩
        obtain ⟨nb, hnb⟩ : ∃ nb : Nat, hexL b = (nb : Int) := ⟨(hexL b).toNat, by omega⟩
        have hyv : y.toNat = 16 * na + nb := by
          rw [hy]
          unfold hexLB
          rw [hna, hnb]
          have e : ((na : Int) * 16 + (nb : Int)).toNat = na * 16 + nb := by omega
          rw [e]
          have : na * 16 + nb < 256 := by omega
          simp only [Nat.toUInt8]
          rw [UInt8.toNat_ofNat', Nat.mod_eq_of_lt this]
          omega
        have ew : IntKind.u8.wrap (16 * (na : Int) + (nb : Int)) = (y.toNat : Int) := by rw [IntWalk.u8_in _ (by omega)]; omega
        have ew1 : IntKind.i64.wrap (16 * (na : Int)) = 16 * (na : Int) := IntWalk.i64_in _ (by omega)
        have ew2 : IntKind.i64.wrap (16 * (na : Int) + (nb : Int)) = 16 * (na : Int) + (nb : Int) := IntWalk.i64_in _ (by omega)
        have ev : (16 * (na : Int) + (nb : Int)) = (y.toNat : Int) := by omega
        have EV := Lib.hid ev
        rw [hna, hnb]
        have hlo : decide ((na : Int) < 0) = false := by rw [decide_eq_false_iff_not]; omega
        have hlo2 : decide ((nb : Int) < 0) = false := by rw [decide_eq_false_iff_not]; omega
        have tok1 : Hid True := Lib.hid trivial
        clear hbad ha hb0 hy hna hnb hba hbb ev hyv
        go_wp2_with (at_builtin; have _t := tok1; go_loud ((refine wpList_app rfl (.tmp 39) (.tmp 45) 22 rfl w.heap.size 5 Tryd.underlying22 byteInfoT _ out rfl (HO.out.alloc _) _ 1 1 [y] rfl (Bs.lit (n := 1) wo [y] 5 _ _ rfl rfl rfl (by simp [maxLen])) (by have := HOL.out; have := HX.out; have := H2.out; omega) (by have := HB.out.size; rw [World.size_alloc]; omega) ?_; intro v1 w2 ho2 hb2 hg2; have HO2 := Lib.hid ho2; have HB2 := Lib.hid ((HB.out.alloc HB.out.size _).trans hb2); clear tok1 _t ho2 hb2 hg2)))
        refine ⟨⟨k + 1, out ++ [y], by omega, congrArg (Value.int .i64) (by have := HI.out; omega), by rw [List.length_append, HOL.out]; rfl, HO2.out, HB2.out, ?_⟩, by have := HI.out; simp [intOf]; omega⟩
        rw [show 2 * (k + 1) = i + 2 from by have := HI.out; omega]
        exact HN.out
    · obtain rfl : k = n := by omega
      have hxi : i = x.size := by have := H2.out; omega
      clear hlt hi
      have HN : Hid (bytesD x.data.toList = some out) := Lib.hid (by
        rw [HE.out, HP.out, List.drop_of_length_le (by simp; omega)]
        simp [pairsL])
      subst hxi
      go_wp2_with (fail)
      go_ret2
      rw [HN.out]
      obtain ⟨A4, c4, rfl, hB4, hf4⟩ := HO.out.bs
      exact ⟨A4, out.length, c4, rfl, hB4, hf4, HB.out⟩
end Go.Proofs.YtnoppnnpennddaaDoor
