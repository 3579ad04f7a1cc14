/- EscapeLonger, walked. -/
import Derived.Test.YtecmadodpkfnnaaEscJoinsW
namespace Go.Proofs.Ytecmadodpkfnnaa
open Go.RowKit Go.MapKept

theorem escLen_other (c : UInt8) (h124 : c ≠ 124) (h94 : c ≠ 94) (h126 : c ≠ 126) (h92 : c ≠ 92) (h38 : c ≠ 38) (h11 : c ≠ 11) (h13 : c ≠ 13) (h28 : c ≠ 28) : (escOf plS c).length = 1 := by
  unfold escOf escGet letterOf
  simp [h124, h94, h126, h92, h38, h11, h13, h28]
set_option maxHeartbeats 4000000 in
set_option maxRecDepth 100000 in
theorem escapeLonger_walk (x : ByteArray) (w : World) (_h0 : x.size ≤ maxLen) : Calls Try.prog 8 #[.string x] w (True_ w) := by
  have hxl : x.size ≤ 9223372036854775807 := Nat.le_trans _h0 (by decide)
  clear _h0
  go_enter Try.func8, Try.ntmps8
  by_cases hx8 : (1500 : Int) < (x.size : Int)
  · go_wp2_with (fail)
    refine (escAlive _).mono ?_
    rintro e w1 ⟨rfl, hb1⟩
    go_wp2_with (fail)
    go_ret
    exact ⟨rfl, hb1⟩
  have hxm : x.size ≤ 1500 := by omega
  clear hxl
  go_wp2_with (fail)
  go_loopw [18, 3, 4] (fun i n _ wr => ∃ k : Nat, k ≤ x.size ∧ i = .int .i64 k ∧ n = .int .i64 (((encD plS (x.data.toList.take k)).length : Int) + ((x.size : Int) - (k : Int))) ∧ wr = w) (fun i _ _ _ => x.size - (intOf i).toNat)
  case atStart => exact ⟨0, Nat.zero_le _, rfl, by simp [encD], rfl⟩
  case round =>
    obtain ⟨k, hk, rfl, rfl, rfl⟩ := hrel
    have HLN : Hid ((encD plS (x.data.toList.take k)).length ≤ 5 * k) := Lib.hid (by
      have h1 := (encD_len plS (x.data.toList.take k)).2
      have h2 : (x.data.toList.take k).length ≤ k := List.length_take_le _ _
      omega)
    have hln := HLN.out
    by_cases hlt : k < x.size
    · skip
      have HTS := Lib.hid (take_snocB x k hlt)
      have e1 : (k : Int) < (x.size : Int) := by omega
      by_cases h124 : x[k] = 124
      · skip
        have d124 : (((x[k].toNat : Nat) : Int) == 124) = true := by rw [h124]; rfl
        have d94 : (((x[k].toNat : Nat) : Int) == 94) = false := by rw [h124]; rfl
        have d126 : (((x[k].toNat : Nat) : Int) == 126) = false := by rw [h124]; rfl
        have d92 : (((x[k].toNat : Nat) : Int) == 92) = false := by rw [h124]; rfl
        have d38 : (((x[k].toNat : Nat) : Int) == 38) = false := by rw [h124]; rfl
        have d11 : (((x[k].toNat : Nat) : Int) == 11) = false := by rw [h124]; rfl
        have d13 : (((x[k].toNat : Nat) : Int) == 13) = false := by rw [h124]; rfl
        have d28 : (((x[k].toNat : Nat) : Int) == 28) = false := by rw [h124]; rfl
        have HES : Hid ((encD plS (x.data.toList.take (k + 1))).length = (encD plS (x.data.toList.take k)).length + 3) := Lib.hid (by rw [HTS.out, encD_snoc, List.length_append]; have : (escOf plS x[k]).length = 3 := (by rw [h124]; decide +kernel); omega)
        clear h124
        go_wp2_with (fail)
        exact ⟨⟨k + 1, by omega, by go_num, by rw [HES.out]; go_num⟩, by simp [intOf]; omega⟩
      by_cases h94 : x[k] = 94
      · skip
        have d124 : (((x[k].toNat : Nat) : Int) == 124) = false := by rw [h94]; rfl
        have d94 : (((x[k].toNat : Nat) : Int) == 94) = true := by rw [h94]; rfl
        have d126 : (((x[k].toNat : Nat) : Int) == 126) = false := by rw [h94]; rfl
        have d92 : (((x[k].toNat : Nat) : Int) == 92) = false := by rw [h94]; rfl
        have d38 : (((x[k].toNat : Nat) : Int) == 38) = false := by rw [h94]; rfl
        have d11 : (((x[k].toNat : Nat) : Int) == 11) = false := by rw [h94]; rfl
        have d13 : (((x[k].toNat : Nat) : Int) == 13) = false := by rw [h94]; rfl
        have d28 : (((x[k].toNat : Nat) : Int) == 28) = false := by rw [h94]; rfl
        have HES : Hid ((encD plS (x.data.toList.take (k + 1))).length = (encD plS (x.data.toList.take k)).length + 3) := Lib.hid (by rw [HTS.out, encD_snoc, List.length_append]; have : (escOf plS x[k]).length = 3 := (by rw [h94]; decide +kernel); omega)
        clear h94
        go_wp2_with (fail)
        exact ⟨⟨k + 1, by omega, by go_num, by rw [HES.out]; go_num⟩, by simp [intOf]; omega⟩
      by_cases h126 : x[k] = 126
      · skip
        have d124 : (((x[k].toNat : Nat) : Int) == 124) = false := by rw [h126]; rfl
        have d94 : (((x[k].toNat : Nat) : Int) == 94) = false := by rw [h126]; rfl
        have d126 : (((x[k].toNat : Nat) : Int) == 126) = true := by rw [h126]; rfl
        have d92 : (((x[k].toNat : Nat) : Int) == 92) = false := by rw [h126]; rfl
        have d38 : (((x[k].toNat : Nat) : Int) == 38) = false := by rw [h126]; rfl
        have d11 : (((x[k].toNat : Nat) : Int) == 11) = false := by rw [h126]; rfl
        have d13 : (((x[k].toNat : Nat) : Int) == 13) = false := by rw [h126]; rfl
        have d28 : (((x[k].toNat : Nat) : Int) == 28) = false := by rw [h126]; rfl
        have HES : Hid ((encD plS (x.data.toList.take (k + 1))).length = (encD plS (x.data.toList.take k)).length + 3) := Lib.hid (by rw [HTS.out, encD_snoc, List.length_append]; have : (escOf plS x[k]).length = 3 := (by rw [h126]; decide +kernel); omega)
        clear h126
        go_wp2_with (fail)
        exact ⟨⟨k + 1, by omega, by go_num, by rw [HES.out]; go_num⟩, by simp [intOf]; omega⟩
      by_cases h92 : x[k] = 92
      · skip
        have d124 : (((x[k].toNat : Nat) : Int) == 124) = false := by rw [h92]; rfl
        have d94 : (((x[k].toNat : Nat) : Int) == 94) = false := by rw [h92]; rfl
        have d126 : (((x[k].toNat : Nat) : Int) == 126) = false := by rw [h92]; rfl
        have d92 : (((x[k].toNat : Nat) : Int) == 92) = true := by rw [h92]; rfl
        have d38 : (((x[k].toNat : Nat) : Int) == 38) = false := by rw [h92]; rfl
        have d11 : (((x[k].toNat : Nat) : Int) == 11) = false := by rw [h92]; rfl
        have d13 : (((x[k].toNat : Nat) : Int) == 13) = false := by rw [h92]; rfl
        have d28 : (((x[k].toNat : Nat) : Int) == 28) = false := by rw [h92]; rfl
        have HES : Hid ((encD plS (x.data.toList.take (k + 1))).length = (encD plS (x.data.toList.take k)).length + 3) := Lib.hid (by rw [HTS.out, encD_snoc, List.length_append]; have : (escOf plS x[k]).length = 3 := (by rw [h92]; decide +kernel); omega)
        clear h92
        go_wp2_with (fail)
        exact ⟨⟨k + 1, by omega, by go_num, by rw [HES.out]; go_num⟩, by simp [intOf]; omega⟩
      by_cases h38 : x[k] = 38
      · skip
        have d124 : (((x[k].toNat : Nat) : Int) == 124) = false := by rw [h38]; rfl
        have d94 : (((x[k].toNat : Nat) : Int) == 94) = false := by rw [h38]; rfl
        have d126 : (((x[k].toNat : Nat) : Int) == 126) = false := by rw [h38]; rfl
        have d92 : (((x[k].toNat : Nat) : Int) == 92) = false := by rw [h38]; rfl
        have d38 : (((x[k].toNat : Nat) : Int) == 38) = true := by rw [h38]; rfl
        have d11 : (((x[k].toNat : Nat) : Int) == 11) = false := by rw [h38]; rfl
        have d13 : (((x[k].toNat : Nat) : Int) == 13) = false := by rw [h38]; rfl
        have d28 : (((x[k].toNat : Nat) : Int) == 28) = false := by rw [h38]; rfl
        have HES : Hid ((encD plS (x.data.toList.take (k + 1))).length = (encD plS (x.data.toList.take k)).length + 3) := Lib.hid (by rw [HTS.out, encD_snoc, List.length_append]; have : (escOf plS x[k]).length = 3 := (by rw [h38]; decide +kernel); omega)
        clear h38
        go_wp2_with (fail)
        exact ⟨⟨k + 1, by omega, by go_num, by rw [HES.out]; go_num⟩, by simp [intOf]; omega⟩
      by_cases h11 : x[k] = 11
      · skip
        have d124 : (((x[k].toNat : Nat) : Int) == 124) = false := by rw [h11]; rfl
        have d94 : (((x[k].toNat : Nat) : Int) == 94) = false := by rw [h11]; rfl
        have d126 : (((x[k].toNat : Nat) : Int) == 126) = false := by rw [h11]; rfl
        have d92 : (((x[k].toNat : Nat) : Int) == 92) = false := by rw [h11]; rfl
        have d38 : (((x[k].toNat : Nat) : Int) == 38) = false := by rw [h11]; rfl
        have d11 : (((x[k].toNat : Nat) : Int) == 11) = true := by rw [h11]; rfl
        have d13 : (((x[k].toNat : Nat) : Int) == 13) = false := by rw [h11]; rfl
        have d28 : (((x[k].toNat : Nat) : Int) == 28) = false := by rw [h11]; rfl
        have HES : Hid ((encD plS (x.data.toList.take (k + 1))).length = (encD plS (x.data.toList.take k)).length + 5) := Lib.hid (by rw [HTS.out, encD_snoc, List.length_append]; have : (escOf plS x[k]).length = 5 := (by rw [h11]; decide +kernel); omega)
        clear h11
        go_wp2_with (fail)
        exact ⟨⟨k + 1, by omega, by go_num, by rw [HES.out]; go_num⟩, by simp [intOf]; omega⟩
      by_cases h13 : x[k] = 13
      · skip
        have d124 : (((x[k].toNat : Nat) : Int) == 124) = false := by rw [h13]; rfl
        have d94 : (((x[k].toNat : Nat) : Int) == 94) = false := by rw [h13]; rfl
        have d126 : (((x[k].toNat : Nat) : Int) == 126) = false := by rw [h13]; rfl
        have d92 : (((x[k].toNat : Nat) : Int) == 92) = false := by rw [h13]; rfl
        have d38 : (((x[k].toNat : Nat) : Int) == 38) = false := by rw [h13]; rfl
        have d11 : (((x[k].toNat : Nat) : Int) == 11) = false := by rw [h13]; rfl
        have d13 : (((x[k].toNat : Nat) : Int) == 13) = true := by rw [h13]; rfl
        have d28 : (((x[k].toNat : Nat) : Int) == 28) = false := by rw [h13]; rfl
        have HES : Hid ((encD plS (x.data.toList.take (k + 1))).length = (encD plS (x.data.toList.take k)).length + 5) := Lib.hid (by rw [HTS.out, encD_snoc, List.length_append]; have : (escOf plS x[k]).length = 5 := (by rw [h13]; decide +kernel); omega)
        clear h13
        go_wp2_with (fail)
        exact ⟨⟨k + 1, by omega, by go_num, by rw [HES.out]; go_num⟩, by simp [intOf]; omega⟩
      by_cases h28 : x[k] = 28
      · skip
        have d124 : (((x[k].toNat : Nat) : Int) == 124) = false := by rw [h28]; rfl
        have d94 : (((x[k].toNat : Nat) : Int) == 94) = false := by rw [h28]; rfl
        have d126 : (((x[k].toNat : Nat) : Int) == 126) = false := by rw [h28]; rfl
        have d92 : (((x[k].toNat : Nat) : Int) == 92) = false := by rw [h28]; rfl
        have d38 : (((x[k].toNat : Nat) : Int) == 38) = false := by rw [h28]; rfl
        have d11 : (((x[k].toNat : Nat) : Int) == 11) = false := by rw [h28]; rfl
        have d13 : (((x[k].toNat : Nat) : Int) == 13) = false := by rw [h28]; rfl
        have d28 : (((x[k].toNat : Nat) : Int) == 28) = true := by rw [h28]; rfl
        have HES : Hid ((encD plS (x.data.toList.take (k + 1))).length = (encD plS (x.data.toList.take k)).length + 5) := Lib.hid (by rw [HTS.out, encD_snoc, List.length_append]; have : (escOf plS x[k]).length = 5 := (by rw [h28]; decide +kernel); omega)
        clear h28
        go_wp2_with (fail)
        exact ⟨⟨k + 1, by omega, by go_num, by rw [HES.out]; go_num⟩, by simp [intOf]; omega⟩
      have d124 : (((x[k].toNat : Nat) : Int) == 124) = false := by rw [beq_eq_false_iff_ne]; intro e; exact h124 (UInt8.toNat_inj.1 (by have : (124 : UInt8).toNat = 124 := rfl; omega))
      have d94 : (((x[k].toNat : Nat) : Int) == 94) = false := by rw [beq_eq_false_iff_ne]; intro e; exact h94 (UInt8.toNat_inj.1 (by have : (94 : UInt8).toNat = 94 := rfl; omega))
      have d126 : (((x[k].toNat : Nat) : Int) == 126) = false := by rw [beq_eq_false_iff_ne]; intro e; exact h126 (UInt8.toNat_inj.1 (by have : (126 : UInt8).toNat = 126 := rfl; omega))
      have d92 : (((x[k].toNat : Nat) : Int) == 92) = false := by rw [beq_eq_false_iff_ne]; intro e; exact h92 (UInt8.toNat_inj.1 (by have : (92 : UInt8).toNat = 92 := rfl; omega))
      have d38 : (((x[k].toNat : Nat) : Int) == 38) = false := by rw [beq_eq_false_iff_ne]; intro e; exact h38 (UInt8.toNat_inj.1 (by have : (38 : UInt8).toNat = 38 := rfl; omega))
      have d11 : (((x[k].toNat : Nat) : Int) == 11) = false := by rw [beq_eq_false_iff_ne]; intro e; exact h11 (UInt8.toNat_inj.1 (by have : (11 : UInt8).toNat = 11 := rfl; omega))
      have d13 : (((x[k].toNat : Nat) : Int) == 13) = false := by rw [beq_eq_false_iff_ne]; intro e; exact h13 (UInt8.toNat_inj.1 (by have : (13 : UInt8).toNat = 13 := rfl; omega))
      have d28 : (((x[k].toNat : Nat) : Int) == 28) = false := by rw [beq_eq_false_iff_ne]; intro e; exact h28 (UInt8.toNat_inj.1 (by have : (28 : UInt8).toNat = 28 := rfl; omega))
      have HES : Hid ((encD plS (x.data.toList.take (k + 1))).length = (encD plS (x.data.toList.take k)).length + 1) := Lib.hid (by rw [HTS.out, encD_snoc, List.length_append]; have : (escOf plS x[k]).length = 1 := escLen_other x[k] h124 h94 h126 h92 h38 h11 h13 h28; omega)
      clear h124 h94 h126 h92 h38 h11 h13 h28
      go_wp2_with (fail)
      exact ⟨⟨k + 1, by omega, by go_num, by rw [HES.out]; go_num⟩, by simp [intOf]; omega⟩
    · obtain rfl : k = x.size := by omega
      have HTK : Hid (x.data.toList.take x.size = x.data.toList) := Lib.hid (List.take_of_length_le (by simp))
      rw [HTK.out] at HLN ⊢
      rw [show ((encD plS x.data.toList).length : Int) + ((x.size : Int) - (x.size : Int)) = ((encD plS x.data.toList).length : Int) by omega]
      clear hln hlt
      go_wp2_with (fail)
      refine (escPlain _).mono ?_
      rintro e w1 ⟨rfl, hb1⟩
      have HB1 := Lib.hid hb1
      clear hb1
      go_wp2_with (fail)
      refine (escEncode x (by omega) plS plS_good w1).mono ?_
      rintro e w2 ⟨rfl, hb2⟩
      have HB2 : Hid (Below wr.heap.size wr w2) := Lib.hid (HB1.out.trans (hb2.mono HB1.out.size))
      clear hb2
      go_wp2_with (fail)
      refine (escPlain w2).mono ?_
      rintro e w3 ⟨rfl, hb3⟩
      have HB3 : Hid (Below wr.heap.size wr w3) := Lib.hid (HB2.out.trans (hb3.mono HB2.out.size))
      clear hb3
      go_wp2_with (fail)
      refine (escDecode x (by omega) plS plS_good w3).mono ?_
      rintro e w4 ⟨rfl, hb4⟩
      have HB4 : Hid (Below wr.heap.size wr w4) := Lib.hid (HB3.out.trans (hb4.mono HB3.out.size))
      clear hb4
      have HXS : Hid (x.data.toList.length = x.size) := Lib.hid (by simp)
      rw [HXS.out]
      have hl1 := txt_size (encD plS x.data.toList)
      rcases decD_cases plS x.data.toList with ⟨a, ha, hal⟩ | ⟨q, he, hq, hqs⟩
      · rw [ha]
        simp only [decText, decPos, decErr]
        have HAL : Hid (a.length ≤ x.size) := Lib.hid (by rw [← HXS.out]; exact hal)
        have hal2 : ((a.length : Nat) : Int) ≤ (x.size : Int) := by have := HAL.out; omega
        clear hal
        have hl2 := txt_size a
        go_wp2_with (fail)
        refine (escAlive w4).mono ?_
        rintro e w5 ⟨rfl, hb5⟩
        have HB5 : Hid (Below wr.heap.size wr w5) := Lib.hid (HB4.out.trans (hb5.mono HB4.out.size))
        clear hb5
        go_wp2_with (fail)
        go_ret
        exact ⟨rfl, HB5.out⟩
      · rw [he]
        simp only [decText, decPos, decErr]
        rw [HXS.out] at hq
        have HQ : Hid (x[q] = 92) := Lib.hid (by rw [← getD_idx x q hq, hqs])
        have hq2 : ((q : Nat) : Int) < (x.size : Int) := by omega
        have hqn : ¬ ((q : Nat) : Int) = (x.size : Int) := by omega
        clear hqs
        go_wp2_with (fail)
        refine (escAlive w4).mono ?_
        rintro e w5 ⟨rfl, hb5⟩
        have HB5 : Hid (Below wr.heap.size wr w5) := Lib.hid (HB4.out.trans (hb5.mono HB4.out.size))
        clear hb5
        have d92 : (((x[q].toNat : Nat) : Int) == 92) = true := by rw [HQ.out]; rfl
        go_wp2_with (fail)
        go_ret
        exact ⟨rfl, HB5.out⟩
end Go.Proofs.Ytecmadodpkfnnaa
