/- DelimParts, walked. -/
import Derived.Test.YtkniednjchnncabDoorDelimCut
import Derived.Test.YtkniednjchnncabDoorDelimSame
namespace Go.Proofs.YtkniednjchnncabDoor
open Go.RowKit

theorem cutAt_more (c : UInt8) (l : List UInt8) : ∀ k : Nat, cutAt c (l ++ List.replicate k c) = cutAt c l ++ List.replicate k []
  | 0 => by simp
  | k + 1 => by
    rw [List.replicate_succ', ← List.append_assoc, cutAt_snoc_eq, cutAt_more c l k, List.replicate_succ', List.append_assoc]
theorem count_take (c : UInt8) (s : ByteArray) (k : Nat) (h : k < s.size) : (s.data.toList.take (k + 1)).count c = (s.data.toList.take k).count c + (if s[k] = c then 1 else 0) := by
  rw [take_snoc s k h, List.count_append, List.count_singleton]
  simp
theorem txt_rep (l : List UInt8) (c : UInt8) (k : Nat) : txt (l ++ List.replicate k c) ++ txt [c] = txt (l ++ List.replicate (k + 1) c) := by
  rw [txt_txt, List.append_assoc, ← List.replicate_succ']

theorem rep_low (T : List (List UInt8)) (r i : Nat) (h : i < T.length) : (T ++ List.replicate r []).getD i [] = T.getD i [] := by
  rw [List.getD_eq_getElem?_getD, List.getD_eq_getElem?_getD, List.getElem?_append_left h]
theorem rep_high (T : List (List UInt8)) (r i : Nat) (h : T.length ≤ i) : (T ++ List.replicate r []).getD i [] = [] := by
  rw [List.getD_eq_getElem?_getD, List.getElem?_append_right h, List.getElem?_replicate]
  split <;> rfl

set_option maxHeartbeats 4000000 in
set_option maxRecDepth 100000 in
theorem delimParts_walk (s : ByteArray) (c m : UInt8) (w : World) (hm : MaxLen w) (_hs : s.size ≤ maxLen) : Calls Tryd.prog 5 #[.string s, u8 c, u8 m] w (True_ w) := by
  have HM := Lib.hid hm
  clear hm
  clear _hs
  go_enter Tryd.func5, Tryd.ntmps5
  by_cases hlong : (1500 : Int) < (s.size : Int)
  · go_wp2_with (fail)
    refine (delimAlive w).mono ?_
    rintro e w1 ⟨rfl, hb⟩
    go_wp2_with (fail)
    go_ret
    exact ⟨rfl, hb⟩
  · have HS : Hid (s.size ≤ 1500) := Lib.hid (by omega)
    go_wp2_with (fail)
    go_loop [7, 20, 8] (fun v i _ => ∃ k : Nat, k ≤ s.size ∧ i = .int .i64 k ∧ v = .int .i64 ((1 + (s.data.toList.take k).count c : Nat) : Int)) (fun _ i _ => s.size - (intOf i).toNat)
    case atStart => exact ⟨0, Nat.zero_le _, rfl, rfl⟩
    case round =>
      obtain ⟨k, hk, rfl, rfl⟩ := hrel
      by_cases hlt : k < s.size
      · have hct := count_take c s k hlt
        have hcl := List.count_le_length (a := c) (l := s.data.toList.take k)
        have hcl2 := List.length_take_le k s.data.toList
        have hqb : ((1 + (s.data.toList.take k).count c : Nat) : Int) ≤ 100000 := by have := HS.out; omega
        obtain ⟨q, hq⟩ : ∃ y, (s.data.toList.take k).count c = y := ⟨_, rfl⟩
        rw [hq] at hct hqb ⊢
        have HC := Lib.hid hct
        clear hcl hcl2 hq hct
        by_cases hx : s[k] = c
        · have d : (((s[k].toNat : Nat) : Int) == ((c.toNat : Nat) : Int)) = true := by rw [hx]; simp
          rw [if_pos hx] at HC
          clear hx
          go_wp2_with (fail)
          exact ⟨⟨k + 1, by omega, by go_num, by rw [HC.out]; go_num⟩, by simp [intOf]; omega⟩
        · have d : (((s[k].toNat : Nat) : Int) == ((c.toNat : Nat) : Int)) = false := by
            rw [beq_eq_false_iff_ne]; intro e; exact hx (UInt8.toNat_inj.1 (by omega))
          rw [if_neg hx] at HC
          clear hx
          go_wp2_with (fail)
          exact ⟨⟨k + 1, by omega, by go_num, by rw [HC.out]; go_num⟩, by simp [intOf]; omega⟩
      · obtain rfl : k = s.size := by omega
        rw [List.take_of_length_le (by simp)]
        have hnb : s.data.toList.count c ≤ 1500 := by
          have := List.count_le_length (a := c) (l := s.data.toList)
          have e : s.data.toList.length = s.size := by simp
          have := HS.out
          omega
        obtain ⟨N, hN⟩ : ∃ y, y = 1 + s.data.toList.count c := ⟨_, rfl⟩
        rw [← hN]
        have HN := Lib.hid hN
        have HNB := Lib.hid hnb
        obtain ⟨r, hr⟩ : ∃ y, y = m.toNat % 20 := ⟨_, rfl⟩
        have HR20 : Hid (r < 20) := Lib.hid (by omega)
        have HR : Hid (((m.toNat : Nat) : Int) % 20 = (r : Int)) := Lib.hid (by omega)
        clear hN hnb hr hlt
        go_wp2_with (fail)
        rw [HR.out]
        go_loopw [9, 34] (fun v i wr => ∃ k : Nat, k ≤ r ∧ i = .int .u8 k ∧ v = .string (txt (s.data.toList ++ List.replicate k c)) ∧ Below w.heap.size w wr) (fun _ i _ => r - (intOf i).toNat)
        case atStart => exact ⟨0, Nat.zero_le _, rfl, by rw [List.replicate_zero, List.append_nil, txt_data], Below.refl _ _⟩
        case round =>
          obtain ⟨k, hk, rfl, rfl, hb⟩ := hrel
          have HB := Lib.hid hb
          clear hb
          by_cases hlt : k < r
          · have e1 : (k : Int) < (r : Int) := by omega
            have hcv := sign_str c wr wr.heap.size rfl
            have ew : IntKind.u8.wrap ((k : Int) + 1) = ((k + 1 : Nat) : Int) := by have := HR20.out; simp [IntKind.wrap, IntKind.signed, IntKind.bits]; omega
            have HT := Lib.hid (txt_rep s.data.toList c k)
            have hle2 : ¬ (9223372036854775807 < (txt (s.data.toList ++ List.replicate k c)).size + (txt [c]).size) := by
              have := HS.out
              have := HR20.out
              show ¬ (9223372036854775807 < (s.data.toList ++ List.replicate k c).length + 1)
              rw [List.length_append, List.length_replicate]
              have e : s.data.toList.length = s.size := by simp
              omega
            have hle3 : ¬ (9223372036854775807 < s.size + k + 1) := by
              have := HS.out
              have := HR20.out
              omega
            have HLT := Lib.hid hlt
            clear hlt
            go_wp2_with (fail)
            exact ⟨⟨k + 1, HLT.out, by go_num, congrArg Value.string HT.out, HB.out.alloc HB.out.size _⟩, by have := HLT.out; simp [intOf]; omega⟩
          · obtain rfl : k = r := by omega
            clear hlt hk
            have hsz : s.size ≤ 4294967000 := by have := HS.out; omega
            have hsz2 : (txt (s.data.toList ++ List.replicate k c)).size ≤ 4294967000 := by
              have := HS.out
              have := HR20.out
              show (s.data.toList ++ List.replicate k c).length ≤ _
              rw [List.length_append, List.length_replicate]
              have e : s.data.toList.length = s.size := by simp
              omega
            have HSZ := Lib.hid hsz
            have HSZ2 := Lib.hid hsz2
            clear hsz hsz2
            go_wp2_with (fail)
            refine (delimCut s c wr HSZ.out (HM.out.below HB.out)).mono ?_
            rintro e w1 ⟨A1, c1, rfl, hS1, hb1⟩
            have HB1 : Hid (Below w.heap.size w w1) := Lib.hid (HB.out.trans (hb1.mono HB.out.size))
            have HS1 := Lib.hid hS1
            clear hS1 hb1 HB
            go_wp2_with (fail)
            refine (delimCut (txt (s.data.toList ++ List.replicate k c)) c w1 HSZ2.out (HM.out.below HB1.out)).mono ?_
            rintro e w2 ⟨A2, c2, rfl, hS2, hb2⟩
            have HB2 : Hid (Below w.heap.size w w2) := Lib.hid (HB1.out.trans (hb2.mono HB1.out.size))
            have HS12 := Lib.hid (HS1.out.below hb2)
            have HS2 := Lib.hid hS2
            rw [show (txt (s.data.toList ++ List.replicate k c)).data.toList = s.data.toList ++ List.replicate k c from rfl, cutAt_more] at HS2 ⊢
            have hl1 : (cutAt c s.data.toList).length = N := by rw [cutAt_length, HN.out]; omega
            have hl2 : (cutAt c s.data.toList ++ List.replicate k []).length = N + k := by rw [List.length_append, List.length_replicate, hl1]
            rw [hl1] at HS12 ⊢
            rw [hl2] at HS2 ⊢
            have HL1 := Lib.hid hl1
            generalize cutAt c s.data.toList = T at *
            clear hS2 hb2 hl1 hl2 HS1 HB1
            go_wp2_with (fail)
            refine (delimAlive w2).mono ?_
            rintro e w3 ⟨rfl, hb3⟩
            have HB3 : Hid (Below w.heap.size w w3) := Lib.hid (HB2.out.trans (hb3.mono HB2.out.size))
            have HS13 := Lib.hid (HS12.out.below hb3)
            have HS23 := Lib.hid (HS2.out.below hb3)
            clear hb3 HB2 HS12 HS2 HM
            have hNb : N ≤ 1501 := by have := HN.out; have := HNB.out; omega
            have hkb := HR20.out
            have em := HR.out
            have ec : IntKind.i64.wrap (k : Int) = (k : Int) := by rw [IntKind.wrap_i64]; omega
            go_wp2_with (fail)
            clear em ec
            go_loop [68, 12, 13] (fun i _ _ => ∃ j : Nat, j ≤ N + k ∧ i = .int .i64 j) (fun i _ _ => N + k - (intOf i).toNat)
            case atStart => exact ⟨0, Nat.zero_le _, rfl⟩
            case round =>
              obtain ⟨j, hj, rfl⟩ := hrel
              by_cases hlt : j < N + k
              · obtain ⟨b2, o2, rfl, _, hc2⟩ := HS23.out.read hlt
                have e1 : (j : Int) < (N : Int) + (k : Int) := by omega
                have e0 : (0 : Int) ≤ (j : Int) := by omega
                by_cases hn : j < N
                · obtain ⟨b1, o1, rfl, _, hc1⟩ := HS13.out.read hn
                  rw [rep_low T k j (by rw [HL1.out]; exact hn)] at hc2
                  generalize T.getD j [] = y at *
                  have e2 : (j : Int) < (N : Int) := by omega
                  have e3 : decide (j < N) = true := by simpa using hn
                  have e4 : decide (N ≤ j) = false := by simpa using hn
                  clear hlt hn
                  go_wp2_with (fail)
                  exact ⟨⟨j + 1, by omega, by go_num⟩, by simp [intOf]; omega⟩
                · rw [rep_high T k j (by rw [HL1.out]; omega)] at hc2
                  have e3 : decide (j < N) = false := by simpa using hn
                  have e4 : decide (N ≤ j) = true := by simpa using hn
                  have e5 : ¬ ((j : Int) < (N : Int)) := by omega
                  clear hlt hn
                  go_wp2_with (fail)
                  exact ⟨⟨j + 1, by omega, by go_num⟩, by simp [intOf]; omega⟩
              · have e1 : ¬ (j : Int) < (N : Int) + (k : Int) := by omega
                go_wp2_with (fail)
                go_ret
                exact ⟨rfl, HB3.out⟩
end Go.Proofs.YtkniednjchnncabDoor
