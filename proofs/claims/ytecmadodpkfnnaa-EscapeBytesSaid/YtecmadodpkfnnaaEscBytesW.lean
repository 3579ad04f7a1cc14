/- EscapeBytes, walked. -/
import Derived.Test.YtecmadodpkfnnaaEscClean
import Derived.Test.YtecmadodpkfnnaaEscBytesM
import Derived.RegionTactic
import Derived.BigRegion
import Derived.Deep.RegionLaw
import Derived.Laws.Concat
namespace Go.Proofs.Ytecmadodpkfnnaa
open Go.RowKit Go.MapKept

theorem and15 : ∀ n : Fin 256, bits BinOp.and IntKind.u8 ((n.val : Nat) : Int) 15 = ((n.val % 16 : Nat) : Int) := by decide +kernel
abbrev dgs : ByteArray := ⟨#[48, 49, 50, 51, 52, 53, 54, 55, 56, 57, 65, 66, 67, 68, 69, 70]⟩
theorem dgIdx (q : Nat) (h : q < 16) (W : World) : (Instr.index 9 (.string ⟨#[48, 49, 50, 51, 52, 53, 54, 55, 56, 57, 65, 66, 67, 68, 69, 70]⟩) (.int .u8 ((q : Nat) : Int))).run Try.prog W = .ok (.int .u8 ((hexU q).toNat : Int)) W := by
  have h2 : ∀ k : Fin 16, (⟨#[48, 49, 50, 51, 52, 53, 54, 55, 56, 57, 65, 66, 67, 68, 69, 70]⟩ : ByteArray)[k.val]'(by have := k.2; simp [ByteArray.size]) = hexU k.val := by decide +kernel
  have h3 := h2 ⟨q, h⟩
  simp only at h3
  simp [Instr.index, asIntOf, run_underlying Try.underlying9, go_sem, h]
  exact congrArg (fun y : UInt8 => ((y.toNat : Nat) : Int)) h3
set_option maxHeartbeats 4000000 in
set_option maxRecDepth 100000 in
theorem escapeBytes_walk (A : Option Addr) (n cp : Nat) (l : List UInt8) (x : ByteArray) (w : World) (hB : Bs w A n cp l) (_h0 : cp ≤ 140737488351232) (_h1 : x.size ≤ maxLen) : Calls Try.prog 6 #[.slice A n cp, .string x] w (True_ w) := by
  have hnl : n ≤ 9223372036854775807 := hB.nmax
  have hxl : x.size ≤ 9223372036854775807 := Nat.le_trans _h1 (by decide)
  clear _h0 _h1
  have HBS := Lib.hid hB
  have hlen := hB.len
  clear hB
  go_enter Try.func6, Try.ntmps6
  by_cases h1 : (300 : Int) < (n : Int)
  · go_wp2_with (fail)
    refine (escAlive _).mono ?_
    rintro e w1 ⟨rfl, hb1⟩
    go_wp2_with (fail)
    go_ret
    exact ⟨rfl, hb1⟩
  by_cases h2 : (300 : Int) < (x.size : Int)
  · go_wp2_with (fail)
    refine (escAlive _).mono ?_
    rintro e w1 ⟨rfl, hb1⟩
    go_wp2_with (fail)
    go_ret
    exact ⟨rfl, hb1⟩
  by_cases h3 : n = 0
  · go_wp2_with (fail)
    refine (escAlive _).mono ?_
    rintro e w1 ⟨rfl, hb1⟩
    go_wp2_with (fail)
    go_ret
    exact ⟨rfl, hb1⟩
  have h4 : ((n : Int) == 0) = false := by rw [beq_eq_false_iff_ne]; omega
  have HN : Hid (0 < n ∧ n ≤ 300) := Lib.hid (by omega)
  have HXZ : Hid (x.size ≤ 300) := Lib.hid (by omega)
  clear hnl hxl h3
  go_wp2_with (fail)
  refine (escPlain _).mono ?_
  rintro e w1 ⟨rfl, hb1⟩
  have HB1 := Lib.hid hb1
  clear hb1
  go_wp2_with (fail)
  refine (escClean x (by have := HXZ.out; omega) plS w1).mono ?_
  rintro e w2 ⟨rfl, hb2⟩
  have HB2 : Hid (Below w.heap.size w w2) := Lib.hid (HB1.out.trans (hb2.mono HB1.out.size))
  clear hb2
  cases hcl : cleanD plS x.data.toList
  · have HCL := Lib.hid hcl
    clear hcl
    go_wp2_with (fail)
    refine (escAlive _).mono ?_
    rintro e w3 ⟨rfl, hb3⟩
    have HB3 : Hid (Below w.heap.size w w3) := Lib.hid (HB2.out.trans (hb3.mono HB2.out.size))
    clear hb3
    go_wp2_with (fail)
    go_ret
    exact ⟨rfl, HB3.out⟩
  have HCL := Lib.hid hcl
  clear hcl
  have HB0 := Lib.hid (HBS.out.below HB2.out)
  obtain ⟨b, o, rfl, _, _⟩ := HB0.out.at_ HN.out.1
  clear HBS
  go_wp2_with (fail)
  go_loopw [47, 5, 6, 8, 9] (fun i a e _ _ wr => ∃ k : Nat, k ≤ n ∧ i = .int .i64 k ∧ a = strV (hexAll (l.take k)) ∧ e = strV (hexEach plS (l.take k)) ∧ Bs wr (some ⟨b, o, none⟩) n cp l ∧ Below w.heap.size w wr) (fun i _ _ _ _ _ => n - (intOf i).toNat)
  case atStart => exact ⟨0, Nat.zero_le _, rfl, rfl, rfl, HB0.out, HB2.out⟩
  case round =>
    obtain ⟨k, hk, rfl, rfl, rfl, hbs, hb⟩ := hrel
    have HBs := Lib.hid hbs
    clear hbs
    have HB := Lib.hid hb
    clear hb
    by_cases hlt : k < n
    · skip
      have e1 : (k : Int) < (n : Int) := by omega
      have hkl : k < l.length := by omega
      obtain ⟨b', o', hbo, hbl, hc⟩ := HBs.out.at_ HN.out.1
      obtain ⟨rfl, rfl⟩ : b = b' ∧ o = o' := by cases hbo; exact ⟨rfl, rfl⟩
      have hcj := hc k l[k] (List.getElem?_eq_getElem hkl)
      have HST : Hid (l.take (k + 1) = l.take k ++ [l[k]]) := Lib.hid (by rw [List.take_succ_eq_append_getElem hkl])
      obtain ⟨c, hcc⟩ : ∃ c, c = l[k] := ⟨_, rfl⟩
      rw [← hcc] at HST hcj
      obtain ⟨q, hq⟩ : ∃ q, q = c.toNat / 16 := ⟨_, rfl⟩
      obtain ⟨m, hm⟩ : ∃ m, m = c.toNat % 16 := ⟨_, rfl⟩
      have HP : Hid (pairU c = [hexU q, hexU m]) := Lib.hid (by rw [hq, hm]; rfl)
      have hc256 := UInt8.toNat_lt c
      have hq16 : (c.toNat : Int) / 16 = (q : Int) := by omega
      have ha15 : bits BinOp.and IntKind.u8 (c.toNat : Int) 15 = (m : Int) := by rw [hm]; exact and15 ⟨c.toNat, hc256⟩
      have ix1 := fun W => dgIdx q (by omega) W
      have ix2 := fun W => dgIdx m (by omega) W
      have hcv := (Bs.lit wr [hexU q, hexU m] 5 #[.int .u8 ((hexU q).toNat : Int), .int .u8 ((hexU m).toNat : Int)] wr.heap.size rfl rfl rfl (by simp [maxLen])).str (P := Try.prog) 35 5 9 Try.underlying35 Try.underlying5 Try.underlying9
      have hcw := (Bs.lit wr [hexU q, hexU m] 5 #[.int .u8 ((hexU q).toNat : Int), .int .u8 ((hexU m).toNat : Int)] wr.heap.size rfl rfl rfl (by simp [maxLen])).drew.str (P := Try.prog) 35 5 9 Try.underlying35 Try.underlying5 Try.underlying9
      simp only [List.length_cons, List.length_nil] at hcv hcw
      have HHA := Lib.hid (hexAll_snoc (l.take k) c)
      have HHE := Lib.hid (hexEach_snoc plS (l.take k) c)
      rw [← HST.out] at HHA HHE
      have HLA : Hid ((hexAll (l.take k)).length ≤ 2000) := Lib.hid (by rw [hexAll_len]; have := List.length_take_le k l; have := HN.out; omega)
      have HLE : Hid ((hexEach plS (l.take k)).length ≤ 2000) := Lib.hid (by rw [hexEach_len]; have := List.length_take_le k l; have := HN.out; omega)
      generalize hexAll (l.take k) = ha at *
      generalize hexEach plS (l.take k) = he at *
      obtain ⟨ha2, hha⟩ : ∃ ha2, ha2 = ha ++ [hexU q, hexU m] := ⟨_, rfl⟩
      have t1 : txt ha ++ txt [hexU q, hexU m] = txt ha2 := by rw [txt_add, hha]
      have n1 : ¬ (9223372036854775807 < (ha.length : Int) + 2) := by have := HLA.out; omega
      obtain ⟨p1, hp1⟩ : ∃ p1 : List UInt8, p1 = [92, 88] ++ [hexU q, hexU m] := ⟨_, rfl⟩
      have t2 : (⟨#[92, 88]⟩ : ByteArray) ++ txt [hexU q, hexU m] = txt p1 := by rw [hp1]; exact txt_add [92, 88] [hexU q, hexU m]
      have n2 : ¬ (9223372036854775807 < (p1.length : Int) + 1) := by rw [hp1]; simp
      obtain ⟨p2, hp2⟩ : ∃ p2 : List UInt8, p2 = p1 ++ [92] := ⟨_, rfl⟩
      have t3 : txt p1 ++ (⟨#[92]⟩ : ByteArray) = txt p2 := by rw [hp2]; exact txt_add p1 [92]
      have n3 : ¬ (9223372036854775807 < (he.length : Int) + (p2.length : Int)) := by rw [hp2, hp1]; have := HLE.out; simp; omega
      obtain ⟨he2, hhe⟩ : ∃ he2, he2 = he ++ p2 := ⟨_, rfl⟩
      have t4 : txt he ++ txt p2 = txt he2 := by rw [txt_add, hhe]
      have HA2 : Hid (hexAll (l.take (k + 1)) = ha2) := Lib.hid (by rw [HHA.out, HP.out, hha])
      have HE2 : Hid (hexEach plS (l.take (k + 1)) = he2) := Lib.hid (by
        have : hexStr plS c = 92 :: 88 :: (pairU c ++ [92]) := rfl
        rw [HHE.out, this, HP.out, hhe, hp2, hp1]
        rfl)
      clear hc hbo hcc hq hm hp1 hp2 hha hhe
      go_wp2_with (fail)
      go_region
      all_goals
        go_wp2_with (fail)
        exact ⟨⟨k + 1, by omega, by go_num, by rw [HA2.out], by rw [HE2.out], (HBs.out.below ((Below.refl _ _).alloc (Nat.le_refl _) _)).drew, (HB.out.alloc HB.out.size _).drew⟩, by simp [intOf]; omega⟩
    · obtain rfl : k = n := by omega
      have HTK : Hid (l.take k = l) := Lib.hid (List.take_of_length_le (by omega))
      rw [HTK.out]
      have HLA : Hid ((hexAll l).length ≤ 2000) := Lib.hid (by rw [hexAll_len]; have := HN.out; omega)
      have HLE : Hid ((hexEach plS l).length ≤ 2000) := Lib.hid (by rw [hexEach_len]; have := HN.out; omega)
      have HXL : Hid (x.data.toList.length = x.size) := Lib.hid (by simp)
      have HD1 := Lib.hid (bytes_all HCL.out l (by have := HN.out; omega))
      have HD2 := Lib.hid (bytes_each HCL.out l)
      have HD3 := Lib.hid (bytes_odd HCL.out l)
      have HD4 := Lib.hid (bytes_no HCL.out)
      have HD5 := Lib.hid (bytes_open HCL.out l)
      generalize hexAll l = ha at *
      generalize hexEach plS l = he at *
      have hx2 : ¬ (9223372036854775807 < (x.size : Int) + 2) := by have := HXZ.out; omega
      have hx3 : ¬ (9223372036854775807 < (x.size : Int) + 3) := by have := HXZ.out; omega
      have hxe : ¬ (9223372036854775807 < (x.size : Int) + (he.length : Int)) := by have := HXZ.out; have := HLE.out; omega
      have hxn : ¬ (9223372036854775807 < (x.size : Int) + (l.length : Int)) := by have := HXZ.out; have := HN.out; omega
      obtain ⟨S1, s1⟩ : ∃ S, x ++ (⟨#[92, 88]⟩ : ByteArray) = S := ⟨_, rfl⟩
      have HS1 : Hid (S1.size = x.size + 2) := Lib.hid (by rw [← s1, ByteArray.size_append]; rfl)
      have HT1 : Hid (S1.data.toList = x.data.toList ++ [92, 88]) := Lib.hid (by rw [← s1, bapp_list])
      have n1 : ¬ (9223372036854775807 < (S1.size : Int) + (ha.length : Int)) := by have := HS1.out; have := HLA.out; have := HXZ.out; omega
      obtain ⟨S2, s2⟩ : ∃ S, S1 ++ txt ha = S := ⟨_, rfl⟩
      have HS2 : Hid (S2.size = x.size + 2 + ha.length) := Lib.hid (by rw [← s2, ByteArray.size_append, HS1.out, txt_size ha])
      have HT2 : Hid (S2.data.toList = x.data.toList ++ [92, 88] ++ ha) := Lib.hid (by rw [← s2, bapp_list, HT1.out])
      have n2 : ¬ (9223372036854775807 < (S2.size : Int) + 1) := by have := HS2.out; have := HLA.out; have := HXZ.out; omega
      have n3 : ¬ (9223372036854775807 < (S2.size : Int) + 2) := by have := HS2.out; have := HLA.out; have := HXZ.out; omega
      obtain ⟨S3, s3⟩ : ∃ S, S2 ++ (⟨#[92]⟩ : ByteArray) = S := ⟨_, rfl⟩
      obtain ⟨S4, s4⟩ : ∃ S, S2 ++ (⟨#[48, 92]⟩ : ByteArray) = S := ⟨_, rfl⟩
      obtain ⟨S5, s5⟩ : ∃ S, x ++ (⟨#[92, 88, 92]⟩ : ByteArray) = S := ⟨_, rfl⟩
      obtain ⟨S6, s6⟩ : ∃ S, x ++ txt he = S := ⟨_, rfl⟩
      obtain ⟨R, hR⟩ : ∃ S, x ++ txt l = S := ⟨_, rfl⟩
      have HR : Hid (strV (x.data.toList ++ l) = .string R) := Lib.hid (by rw [← hR]; exact congrArg Value.string (by apply ByteArray.ext; apply Array.toList_inj.1; simp [ByteArray.data_append]))
      have HF3 : Hid (decD plS S3.data.toList = .ok (x.data.toList ++ l) ∧ S3.size ≤ 1000000) := Lib.hid ⟨by rw [← s3, bapp_list, HT2.out]; exact HD1.out, by rw [← s3, ByteArray.size_append, HS2.out]; have := HLA.out; have := HXZ.out; have : (⟨#[92]⟩ : ByteArray).size = 1 := rfl; omega⟩
      have HF4 : Hid (decD plS S4.data.toList = .error x.size ∧ S4.size ≤ 1000000) := Lib.hid ⟨by rw [← s4, bapp_list, HT2.out, ← HXL.out]; exact HD3.out, by rw [← s4, ByteArray.size_append, HS2.out]; have := HLA.out; have := HXZ.out; have : (⟨#[48, 92]⟩ : ByteArray).size = 2 := rfl; omega⟩
      have HF5 : Hid (decD plS S5.data.toList = .error x.size ∧ S5.size ≤ 1000000) := Lib.hid ⟨by rw [← s5, bapp_list, ← HXL.out]; exact HD4.out, by rw [← s5, ByteArray.size_append]; have := HXZ.out; have : (⟨#[92, 88, 92]⟩ : ByteArray).size = 3 := rfl; omega⟩
      have HF6 : Hid (decD plS S6.data.toList = .ok (x.data.toList ++ l) ∧ S6.size ≤ 1000000) := Lib.hid ⟨by rw [← s6, bapp_list]; exact HD2.out, by rw [← s6, ByteArray.size_append, txt_size he]; have := HLE.out; have := HXZ.out; omega⟩
      have HF2 : Hid (decD plS S2.data.toList = .error x.size ∧ S2.size ≤ 1000000) := Lib.hid ⟨by rw [HT2.out, ← HXL.out]; exact HD5.out, by rw [HS2.out]; have := HLA.out; have := HXZ.out; omega⟩
      clear HD1 HD2 HD3 HD4 HD5 hlt hlen HTK
      go_wp2_with (fail)
      refine (escPlain _).mono ?_
      rintro e v1 ⟨rfl, hb1⟩
      have HV1 : Hid (Below w.heap.size w v1) := Lib.hid (HB.out.trans (hb1.mono HB.out.size))
      have HC1 := Lib.hid (HBs.out.below hb1)
      clear hb1
      go_wp2_with (fail)
      refine (escDecode S3 HF3.out.2 plS plS_good _).mono ?_
      rintro e y1 ⟨rfl, hb1⟩
      have HQ1 : Hid (Below w.heap.size w y1) := Lib.hid (HV1.out.trans (hb1.mono HV1.out.size))
      have HCb1 := Lib.hid (HC1.out.below hb1)
      clear hb1
      rw [HF3.out.1]
      simp only [decText, decPos, decErr]
      rw [HR.out]
      go_wp2_with (fail)
      refine (escPlain _).mono ?_
      rintro e v2 ⟨rfl, hb1⟩
      have HV2 : Hid (Below w.heap.size w v2) := Lib.hid (HQ1.out.trans (hb1.mono HQ1.out.size))
      have HC2 := Lib.hid (HCb1.out.below hb1)
      clear hb1
      go_wp2_with (fail)
      refine (escDecode S6 HF6.out.2 plS plS_good _).mono ?_
      rintro e y2 ⟨rfl, hb1⟩
      have HQ2 : Hid (Below w.heap.size w y2) := Lib.hid (HV2.out.trans (hb1.mono HV2.out.size))
      have HCb2 := Lib.hid (HC2.out.below hb1)
      clear hb1
      rw [HF6.out.1]
      simp only [decText, decPos, decErr]
      rw [HR.out]
      go_wp2_with (fail)
      refine (escPlain _).mono ?_
      rintro e v3 ⟨rfl, hb1⟩
      have HV3 : Hid (Below w.heap.size w v3) := Lib.hid (HQ2.out.trans (hb1.mono HQ2.out.size))
      have HC3 := Lib.hid (HCb2.out.below hb1)
      clear hb1
      go_wp2_with (fail)
      refine (escDecode S4 HF4.out.2 plS plS_good _).mono ?_
      rintro e y3 ⟨rfl, hb1⟩
      have HB3 : Hid (Below w.heap.size w y3) := Lib.hid (HV3.out.trans (hb1.mono HV3.out.size))
      have HCb3 := Lib.hid (HC3.out.below hb1)
      clear hb1
      rw [HF4.out.1]
      simp only [decText, decPos, decErr]
      go_wp2_with (fail)
      refine (escPlain _).mono ?_
      rintro e v4 ⟨rfl, hb1⟩
      have HV4 : Hid (Below w.heap.size w v4) := Lib.hid (HB3.out.trans (hb1.mono HB3.out.size))
      have HC4 := Lib.hid (HCb3.out.below hb1)
      clear hb1
      go_wp2_with (fail)
      refine (escDecode S5 HF5.out.2 plS plS_good _).mono ?_
      rintro e y4 ⟨rfl, hb1⟩
      have HB4 : Hid (Below w.heap.size w y4) := Lib.hid (HV4.out.trans (hb1.mono HV4.out.size))
      have HCb4 := Lib.hid (HC4.out.below hb1)
      clear hb1
      rw [HF5.out.1]
      simp only [decText, decPos, decErr]
      go_wp2_with (fail)
      refine (escPlain _).mono ?_
      rintro e v5 ⟨rfl, hb1⟩
      have HV5 : Hid (Below w.heap.size w v5) := Lib.hid (HB4.out.trans (hb1.mono HB4.out.size))
      have HC5 := Lib.hid (HCb4.out.below hb1)
      clear hb1
      go_wp2_with (fail)
      refine (escDecode S2 HF2.out.2 plS plS_good _).mono ?_
      rintro e y5 ⟨rfl, hb1⟩
      have HB5 : Hid (Below w.heap.size w y5) := Lib.hid (HV5.out.trans (hb1.mono HV5.out.size))
      have HCb5 := Lib.hid (HC5.out.below hb1)
      clear hb1
      rw [HF2.out.1]
      simp only [decText, decPos, decErr]
      go_wp2_with (fail)
      refine (escAlive _).mono ?_
      rintro e y6 ⟨rfl, hb1⟩
      have HB6 : Hid (Below w.heap.size w y6) := Lib.hid (HB5.out.trans (hb1.mono HB5.out.size))
      have hcv := (HCb5.out.below hb1).str (P := Try.prog) 35 5 9 Try.underlying35 Try.underlying5 Try.underlying9
      clear hb1
      go_wp2_with (fail)
      go_ret
      exact ⟨rfl, HB6.out⟩
end Go.Proofs.Ytecmadodpkfnnaa
