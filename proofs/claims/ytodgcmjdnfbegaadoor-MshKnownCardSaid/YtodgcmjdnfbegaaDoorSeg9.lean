/- Layer 8: a segment of a name and fields, walked. -/
import Derived.Test.YtodgcmjdnfbegaaDoorSeg8
namespace Go.Proofs.YtodgcmjdnfbegaaDoor
open Go.RowKit

/-- what stands ahead of the field number k -/
def sepD (name : ByteArray) (c : UInt8) (k : Nat) : List UInt8 := if name = mshB ∧ k ≤ 1 then [] else [c]
/-- the segment, as far as its first k fields -/
def mkTo (name : ByteArray) (c : UInt8) (T : List (List UInt8)) : Nat → List UInt8
  | 0 => name.data.toList
  | k + 1 => mkTo name c T k ++ sepD name c k ++ T.getD k []
def makeD (name : ByteArray) (c : UInt8) (T : List (List UInt8)) : List UInt8 := mkTo name c T T.length
theorem sepD_len (name : ByteArray) (c : UInt8) (k : Nat) : (sepD name c k).length ≤ 1 := by unfold sepD; split <;> simp
theorem mkTo_len (name : ByteArray) (c : UInt8) (T : List (List UInt8)) : ∀ k, k ≤ T.length → (mkTo name c T k).length ≤ name.size + Lib.lens (T.take k) + k
  | 0, _ => by simp [mkTo]
  | k + 1, h => by
    have h1 := mkTo_len name c T k (by omega)
    have h2 := sepD_len name c k
    have h3 := lens_getD T k (by omega)
    simp only [mkTo, List.length_append]
    omega

set_option maxHeartbeats 4000000 in
set_option maxRecDepth 100000 in
theorem segMake (d : Sgn) (name : ByteArray) (A : Option Addr) (n cp : Nat) (T : List (List UInt8)) (w : World) (hS : Ss w A n cp T) (hnm : name.size ≤ 1048576) (ht : Lib.lens T + T.length ≤ 1048576) : Calls Tryd.prog 30 #[d.v, .string name, .slice A n cp] w fun e w' => e = .returned (str (makeD name d.a T)) ∧ Below w.heap.size w w' := by
  have HS := Lib.hid (hS.below ((Below.refl _ w).alloc (Nat.le_refl _) (.cells #[u8 d.a, u8 d.b, u8 d.c, u8 d.d, u8 d.e] 25)))
  have HT := Lib.hid ht
  have HNM := Lib.hid hnm
  have hmax := hS.nmax
  have hTl := hS.len
  have HLEN := Lib.hid hTl
  have HX0 : Hid (BoxS d w.heap.size (boxSgn d w)) := Lib.hid (heap_alloc_new w _)
  have HB0 : Hid (Below w.heap.size w (boxSgn d w)) := Lib.hid (boxSgn_below d w)
  clear hS ht hnm hTl
  go_enter Tryd.func30, Tryd.ntmps30
  go_wp2_with (fail)
  generalize hw0 : w.alloc (.cells #[u8 d.a, u8 d.b, u8 d.c, u8 d.d, u8 d.e] 25) = w0 at *
  rw [show boxSgn d w = w0 from hw0] at HX0 HB0
  have HZ0 : Hid (w0.heap.size = w.heap.size + 1) := Lib.hid (by rw [← hw0]; simp)
  have HBU : Hid (Bu w0.heap.size w0.heap.size [] (w0.alloc (.cells #[.pointer none, .slice none 0 0] TB))) := Lib.hid (Bu.new (Nat.le_refl _))
  have HBA : Hid (Below w0.heap.size w0 (w0.alloc (.cells #[.pointer none, .slice none 0 0] TB))) := Lib.hid ((Below.refl _ _).alloc (Nat.le_refl _) _)
  clear hw0
  rw [HZ0.out] at HBU HBA
  obtain ⟨B, hB⟩ : ∃ B, B = w.heap.size + 1 := ⟨_, rfl⟩
  rw [← hB] at HBU HBA HZ0 ⊢
  have HBE := Lib.hid hB
  clear hB
  generalize (w0.alloc (.cells #[.pointer none, .slice none 0 0] TB)) = w3 at *
  have HW3 : Hid (B ≤ w3.heap.size) := Lib.hid (by have := HBA.out.size; have := HZ0.out; omega)
  refine (buString_ B B [] name.data.toList w3 HBU.out (by have := HNM.out; simp; omega) HW3.out).mono ?_
  rintro e w4 ⟨rfl, hbu, hb4⟩
  have HBU4 := Lib.hid hbu
  have HB4 : Hid (Below B w0 w4) := Lib.hid (HBA.out.trans hb4)
  clear hbu hb4 HBU
  go_wp2_with (fail)
  go_loopw [14, 8, 9] (fun i _ _ wr => ∃ k : Nat, k ≤ n ∧ i = .int .i64 k ∧ Bu B B (mkTo name d.a T k) wr ∧ Below B w0 wr) (fun i _ _ _ => n - (intOf i).toNat)
  case atStart => exact ⟨0, Nat.zero_le _, rfl, by simpa [mkTo] using HBU4.out, HB4.out⟩
  case round =>
    obtain ⟨wo, rfl⟩ : ∃ wo : World, wo = wr := ⟨_, rfl⟩
    obtain ⟨k, hk, rfl, hbu, hb⟩ := hrel
    have HBU := Lib.hid hbu
    have HB := Lib.hid hb
    have HSO := Lib.hid (HS.out.below (hb.mono (Nat.le_of_eq HZ0.out)))
    have HXO := Lib.hid (HX0.out.below (hb.mono (Nat.le_of_eq HZ0.out)))
    have HSZ : Hid (B ≤ wo.heap.size) := Lib.hid (by have := hb.size; have := HZ0.out; omega)
    clear hbu hb HBU4 HB4
    have HLN : Hid ((mkTo name d.a T k).length ≤ 2097152) := Lib.hid (by
      have h1 := mkTo_len name d.a T k (by have := HLEN.out; omega)
      have h2 := Lib.lens_take_le T k
      have h3 := HT.out
      have h4 := HNM.out
      have h5 := HLEN.out
      omega)
    by_cases hlt : k < n
    · have e1 : (k : Int) < (n : Int) := by omega
      obtain ⟨b, o, rfl, hbl, hc⟩ := HSO.out.read hlt
      obtain ⟨c0, c1, c2, c3, c4⟩ := HXO.out.cells
      obtain ⟨y, hy⟩ : ∃ y, y = T.getD k [] := ⟨_, rfl⟩
      rw [← hy] at hc
      have HMK : Hid (mkTo name d.a T (k + 1) = mkTo name d.a T k ++ sepD name d.a k ++ y) := Lib.hid (by rw [hy]; rfl)
      have HYL : Hid (y.length ≤ 1048576) := Lib.hid (by
        have h1 := lens_getD T k (by have := HLEN.out; omega)
        have h2 := Lib.lens_take_le T (k + 1)
        have h3 := HT.out
        rw [hy]; omega)
      have HLT := Lib.hid hlt
      clear hy hlt hk
      by_cases hm : name = mshB ∧ k ≤ 1
      · have hs : sepD name d.a k = [] := if_pos hm
        have d1 : (name.toList == [77, 83, 72]) = true := by rw [hm.1, Go.ByteArray.toList_eq]; rfl
        have d2 : decide ((1 : Int) < (k : Int)) = false := by simp; omega
        have hk1 : k ≤ 1 := hm.2
        have HSP := Lib.hid hs
        clear hs hm
        go_wp2_with (fail)
        refine (buString_ B B (mkTo name d.a T k) y wo HBU.out (by have := HLN.out; have := HYL.out; omega) HSZ.out).mono ?_
        rintro e w5 ⟨rfl, hbu5, hb5⟩
        have HBU5 := Lib.hid hbu5
        have HB5 : Hid (Below B w0 w5) := Lib.hid (HB.out.trans hb5)
        clear hbu5 hb5
        go_wp2_with (fail)
        exact ⟨⟨k + 1, HLT.out, by go_num, by rw [HMK.out, HSP.out, List.append_nil]; exact HBU5.out, HB5.out⟩, by have := HLT.out; simp [intOf]; omega⟩
      · have hs : sepD name d.a k = [d.a] := if_neg hm
        have HSP := Lib.hid hs
        have HTL : Hid ((mkTo name d.a T k ++ [d.a]).length ≤ 2097153) := Lib.hid (by rw [List.length_append]; have := HLN.out; simp; omega)
        clear hs
        by_cases hn : name = mshB
        · have hk1 : 1 < k := by
            rcases Nat.lt_or_ge 1 k with h | h
            · exact h
            · exact absurd ⟨hn, h⟩ hm
          have d1 : (name.toList == [77, 83, 72]) = true := by rw [hn, Go.ByteArray.toList_eq]; rfl
          have d2 : decide ((1 : Int) < (k : Int)) = true := by simp; omega
          clear hm hn
          go_wp2_with (fail)
          refine (buByte B B (mkTo name d.a T k) d.a wo HBU.out (by have := HLN.out; omega) HSZ.out).mono ?_
          rintro e w5 ⟨rfl, hbu5, hb5⟩
          have HBU5 := Lib.hid hbu5
          have HB5 : Hid (Below B w0 w5) := Lib.hid (HB.out.trans hb5)
          have HS5 : Hid (B ≤ w5.heap.size) := Lib.hid (Nat.le_trans HSZ.out hb5.size)
          clear hbu5 hb5
          go_wp2_with (fail)
          refine (buString_ B B (mkTo name d.a T k ++ [d.a]) y w5 HBU5.out (by have := HTL.out; have := HYL.out; omega) HS5.out).mono ?_
          rintro e w6 ⟨rfl, hbu6, hb6⟩
          have HBU6 := Lib.hid hbu6
          have HB6 : Hid (Below B w0 w6) := Lib.hid (HB5.out.trans hb6)
          clear hbu6 hb6
          go_wp2_with (fail)
          exact ⟨⟨k + 1, HLT.out, by go_num, by rw [HMK.out, HSP.out]; exact HBU6.out, HB6.out⟩, by have := HLT.out; simp [intOf]; omega⟩
        · have d1 : (name.toList == [77, 83, 72]) = false := by
            rw [Go.ByteArray.toList_eq, beq_eq_false_iff_ne]
            exact fun e => hn (ByteArray.ext (Array.toList_inj.1 e))
          clear hm hn
          go_wp2_with (fail)
          refine (buByte B B (mkTo name d.a T k) d.a wo HBU.out (by have := HLN.out; omega) HSZ.out).mono ?_
          rintro e w5 ⟨rfl, hbu5, hb5⟩
          have HBU5 := Lib.hid hbu5
          have HB5 : Hid (Below B w0 w5) := Lib.hid (HB.out.trans hb5)
          have HS5 : Hid (B ≤ w5.heap.size) := Lib.hid (Nat.le_trans HSZ.out hb5.size)
          clear hbu5 hb5
          go_wp2_with (fail)
          refine (buString_ B B (mkTo name d.a T k ++ [d.a]) y w5 HBU5.out (by have := HTL.out; have := HYL.out; omega) HS5.out).mono ?_
          rintro e w6 ⟨rfl, hbu6, hb6⟩
          have HBU6 := Lib.hid hbu6
          have HB6 : Hid (Below B w0 w6) := Lib.hid (HB5.out.trans hb6)
          clear hbu6 hb6
          go_wp2_with (fail)
          exact ⟨⟨k + 1, HLT.out, by go_num, by rw [HMK.out, HSP.out]; exact HBU6.out, HB6.out⟩, by have := HLT.out; simp [intOf]; omega⟩
    · obtain rfl : k = n := by omega
      have HMD : Hid (makeD name d.a T = mkTo name d.a T k) := Lib.hid (by unfold makeD; rw [HLEN.out])
      clear hlt hk
      go_wp2_with (fail)
      refine (Tryd.Builder_String_any B B (mkTo name d.a T k) wo HBU.out HSZ.out).mono ?_
      rintro e w4 ⟨rfl, hb4⟩
      have HB4 : Hid (Below w.heap.size w w4) := Lib.hid (HB0.out.trans ((HB.out.trans hb4).mono (by have := HBE.out; omega)))
      clear hb4
      go_wp2_with (fail)
      go_ret
      exact ⟨by rw [HMD.out]; rfl, HB4.out⟩
end Go.Proofs.YtodgcmjdnfbegaaDoor
