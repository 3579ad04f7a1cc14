/- DelimCuts, walked. -/
import Derived.Test.YtkniednjchnncabDoorDelimCut
import Derived.Test.YtkniednjchnncabDoorDelimSame
namespace Go.Proofs.YtkniednjchnncabDoor
open Go.RowKit

theorem lens_getD (T : List (List UInt8)) (k : Nat) (hk : k < T.length) : Lib.lens (T.take (k + 1)) = Lib.lens (T.take k) + (T.getD k []).length :=
  Lib.lens_take_succ T k _ (by rw [List.getD_eq_getElem?_getD, List.getElem?_eq_getElem hk]; rfl)

set_option maxHeartbeats 4000000 in
set_option maxRecDepth 100000 in
theorem delimCuts_walk (s : ByteArray) (c : UInt8) (A : Option Addr) (n cp : Nat) (T : List (List UInt8)) (w : World) (hm : MaxLen w) (_hs : s.size ≤ maxLen) (hS : Ss w A n cp T) (hs : s.size ≤ 1048576) (ht : Lib.lens T + T.length ≤ 1048576) :
    Calls Tryd.prog 3 #[.string s, u8 c, .slice A n cp] w (True_ w) := by
  have HM := Lib.hid hm
  have HS := Lib.hid hS
  have HT := Lib.hid ht
  have HSZ := Lib.hid hs
  have hmax := hS.nmax
  clear hm hS ht _hs
  go_enter Tryd.func3, Tryd.ntmps3
  go_wp2_with (fail)
  go_loop [7, 14, 9] (fun v i _ => ∃ k : Nat, k ≤ n ∧ i = .int .i64 k ∧ v = .int .i64 ((s.size + Lib.lens (T.take k) + k : Nat) : Int)) (fun _ i _ => n - (intOf i).toNat)
  case atStart => exact ⟨0, Nat.zero_le _, rfl, rfl⟩
  case round =>
    obtain ⟨k, hk, rfl, rfl⟩ := hrel
    have hb1 := Lib.lens_take_le T k
    have hTl := HS.out.len
    by_cases hlt : k < n
    · have hl := lens_getD T k (by omega)
      have hb2 := Lib.lens_take_le T (k + 1)
      obtain ⟨b, o, rfl, _, hc⟩ := HS.out.read hlt
      have hTb := HT.out
      have e1 : (k : Int) < (n : Int) := by omega
      obtain ⟨p, hp⟩ : ∃ y, y = Lib.lens (T.take k) := ⟨_, rfl⟩
      rw [← hp] at hl hb1 ⊢
      generalize T.getD k [] = y at *
      have hq : ((s.size + p + k : Nat) : Int) ≤ 4000000 := by omega
      have hy : (y.length : Int) ≤ 1048576 := by omega
      have HL := Lib.hid hl
      have HLT := Lib.hid hlt
      clear hl hb1 hb2 hTl hlt hp hTb
      go_wp2_with (fail)
      exact ⟨⟨k + 1, HLT.out, by go_num, by rw [HL.out]; go_num⟩, by have := HLT.out; simp [intOf]; omega⟩
    · obtain rfl : k = n := by omega
      rw [List.take_of_length_le (by omega)]
      obtain ⟨N, hN⟩ : ∃ y, y = s.size + Lib.lens T + k := ⟨_, rfl⟩
      rw [← hN]
      clear hb1 hTl hlt hN
      by_cases hlong : (3000 : Int) < (N : Int)
      · go_wp2_with (fail)
        refine (delimAlive w).mono ?_
        rintro e w1 ⟨rfl, hb⟩
        go_wp2_with (fail)
        go_ret
        exact ⟨rfl, hb⟩
      · go_wp2_with (fail)
        refine (delimAlive w).mono ?_
        rintro e w1 ⟨rfl, hb⟩
        have HB1 := Lib.hid hb
        clear hb
        go_wp2_with (fail)
        refine (delimCut s c w1 (by have := HSZ.out; omega) (HM.out.below HB1.out)).mono ?_
        rintro e w2 ⟨A1, c1, rfl, hS1, hb⟩
        have HB2 : Hid (Below w.heap.size w w2) := Lib.hid (HB1.out.trans (hb.mono HB1.out.size))
        have HS1 := Lib.hid hS1
        clear hS1 hb HB1
        go_wp2_with (fail)
        refine (refCut s c w2 (by have := HSZ.out; omega)).mono ?_
        rintro e w3 ⟨A2, c2, rfl, hS2, hb⟩
        have HB3 : Hid (Below w.heap.size w w3) := Lib.hid (HB2.out.trans (hb.mono HB2.out.size))
        have HS13 := Lib.hid (HS1.out.below hb)
        have HS2 := Lib.hid hS2
        clear hS2 hb HB2 HS1
        generalize cutAt c s.data.toList = U at *
        go_wp2_with (fail)
        refine (same06 A1 A2 U.length c1 c2 U w3 HS13.out HS2.out).mono ?_
        rintro e w4 ⟨rfl, hb⟩
        have HB4 : Hid (Below w.heap.size w w4) := Lib.hid (HB3.out.trans (hb.mono HB3.out.size))
        clear hb HB3 HS13 HS2
        have hjl : (Lib.join T [c]).length ≤ 1099511627000 := by rw [jlen]; have := HT.out; omega
        have HJL := Lib.hid hjl
        clear hjl
        go_wp2_with (fail)
        refine (delimJoin c A k cp T w4 (HS.out.below HB4.out) HJL.out (by have := HT.out; have := HS.out.len; omega)).mono ?_
        rintro e w5 ⟨rfl, hb⟩
        have HB5 : Hid (Below w.heap.size w w5) := Lib.hid (HB4.out.trans (hb.mono HB4.out.size))
        clear hb HB4
        go_wp2_with (fail)
        refine (refJoin c A k cp T w5 (HS.out.below HB5.out) HJL.out).mono ?_
        rintro e w6 ⟨rfl, hb⟩
        have HB6 : Hid (Below w.heap.size w w6) := Lib.hid (HB5.out.trans (hb.mono HB5.out.size))
        clear hb HB5 HJL
        generalize Lib.join T [c] = J at *
        go_wp2_with (fail)
        go_ret
        exact ⟨rfl, HB6.out⟩
end Go.Proofs.YtkniednjchnncabDoor
