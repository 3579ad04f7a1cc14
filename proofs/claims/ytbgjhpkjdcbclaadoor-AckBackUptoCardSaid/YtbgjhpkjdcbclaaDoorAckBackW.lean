/- AckBack, walked. -/
import Derived.Test.YtbgjhpkjdcbclaaDoorAckA
import Derived.Test.YtbgjhpkjdcbclaaDoorOpenAck
namespace Go.Proofs.YtbgjhpkjdcbclaaDoor
open Go.RowKit

set_option maxHeartbeats 16000000 in
set_option maxRecDepth 100000 in
theorem ackBack_walk (h : Hd) (x : UInt8) (w : World) (hv : Cds w) (ht : Lib.lens (h.l.map (·.data.toList)) ≤ 1048576) :
    Calls Tryd.prog 5 #[h.v, u8 x] w (True_ w) := by
  have HS := Lib.hid (show h.sum ≤ 1048576 by rw [h.sum_eq]; exact ht)
  have HX0 := Lib.hid (BoxH.new h w)
  have HB0 := Lib.hid (boxHd_below h w)
  have HV := Lib.hid (fun W (hb : Below w.heap.size w W) => hv.below hb)
  clear hv ht
  have hx64 : IntKind.i64.wrap (x.toNat : Int) = (x.toNat : Int) := by rw [IntKind.wrap_i64]; have := x.toNat_lt; omega
  have hw64 : wrap64 (x.toNat : Int) = (x.toNat : Int) := by have := x.toNat_lt; unfold wrap64; omega
  obtain ⟨K, hKx⟩ : ∃ K : Nat, (x.toNat : Int).tmod 3 = (K : Int) := ⟨x.toNat % 3, by rw [Int.tmod_eq_emod_of_nonneg (by omega)]; omega⟩
  have HK : Hid (K < 3) := Lib.hid (by rw [Int.tmod_eq_emod_of_nonneg (by omega)] at hKx; omega)
  go_enter Tryd.func5, Tryd.ntmps5
  go_wp2_with (fail)
  generalize w.alloc (.cells #[u8 h.d.a, u8 h.d.b, u8 h.d.c, u8 h.d.d, u8 h.d.e, .string h.a0, .string h.a1, .string h.a2, .string h.a3, .string h.a4, .string h.a5, .string h.a6, .string h.a7, .string h.a8, .string h.a9] TH) = w0 at *
  refine (ackCodes_ w0 (HV.out _ HB0.out)).mono ?_
  rintro e w1 ⟨AC, cc, rfl, hS, hb1⟩
  obtain ⟨b, o, rfl, hbl, hcell⟩ := hS.read HK.out
  rw [codes_getD K HK.out] at hcell
  have HX1 := Lib.hid (HX0.out.below hb1)
  have HB1 := Lib.hid (HB0.out.trans (hb1.mono HB0.out.size))
  have HBL := Lib.hid hbl
  have HC1 := Lib.hid hcell
  clear hb1 HX0 HB0 hS hbl hcell
  obtain ⟨c0, c1, c2, c3, c4, c5, c6, c7, c8, c9, c10, c11, c12, c13, c14⟩ := HX1.out.cells
  go_wp2_with (fail)
  clear c0 c1 c2 c3 c4 c5 c6 c7 c8 c9 c10 c11 c12 c13 c14
  refine (great10 h w1 HS.out rfl rfl).mono ?_
  rintro e w2 ⟨rfl, hb2⟩
  have HX2 := Lib.hid (HX1.out.below hb2)
  have HB2 := Lib.hid (HB1.out.trans (hb2.mono HB1.out.size))
  have HC2 := Lib.hid ((hb2.cell (p := ⟨b, o + K, none⟩) HBL.out).trans HC1.out)
  have HBL2 := Lib.hid (Nat.lt_of_lt_of_le HBL.out hb2.size)
  clear hb2 HX1 HB1 HC1 HBL
  cases hgr : decide (2000 < h.sum)
  · have HSM : Hid (h.sum ≤ 2000) := Lib.hid (by have := of_decide_eq_false hgr; omega)
    clear hgr
    go_wp2_with (fail)
    refine (alive10 w2 (HV.out _ HB2.out)).mono ?_
    rintro e w3 ⟨rfl, hb3⟩
    have HX3 := Lib.hid (HX2.out.below hb3)
    have HB3 := Lib.hid (HB2.out.trans (hb3.mono HB2.out.size))
    have hcell := (hb3.cell (p := ⟨b, o + K, none⟩) HBL2.out).trans HC2.out
    clear hb3 HX2 HB2 HC2 HBL2
    obtain ⟨k1, k2⟩ := And.intro (code_cB K HK.out) (size_cB K HK.out)
    have hk0 : (K : Int) < 3 := by have := HK.out; omega
    obtain ⟨cd, hcd⟩ : ∃ cd, cd = cB K := ⟨_, rfl⟩
    rw [← hcd] at k1 k2 hcell
    clear hcd
    obtain ⟨c0, c1, c2, c3, c4, c5, c6, c7, c8, c9, c10, c11, c12, c13, c14⟩ := HX3.out.cells
    go_wp2_with (fail)
    clear c0 c1 c2 c3 c4 c5 c6 c7 c8 c9 c10 c11 c12 c13 c14 hcell hk0 hKx
    refine (ackBuild h cd w3 (HV.out _ HB3.out) (by have := HSM.out; omega) (by omega)).mono ?_
    rintro e w4 ⟨A4, cp4, rfl, hBs, hb4⟩
    have HX4 := Lib.hid (HX3.out.below hb4)
    have HB4 := Lib.hid (HB3.out.trans (hb4.mono HB3.out.size))
    have HBL := Lib.hid (buildD_len h cd)
    clear hb4 HX3 HB3
    rcases buildD_known (h := h) (code := cd) k1 with hw | hw | ⟨hw, hg, hst⟩
    · rw [hw]
      clear hw hBs HBL
      go_wp2_with (fail)
      go_ret
      exact ⟨rfl, HB4.out⟩
    · rw [hw]
      clear hw hBs HBL
      go_wp2_with (fail)
      go_ret
      exact ⟨rfl, HB4.out⟩
    · have HR := Lib.hid (build_read (h := h) (code := cd) k1 hg hst (makeD msaB h.d.a [cd.data.toList, h.a7.data.toList] ++ [13]))
      rw [hw] at hBs HBL ⊢
      have HN4 : Hid ((segH (ansH h) ++ 13 :: (makeD msaB h.d.a [cd.data.toList, h.a7.data.toList] ++ [13])).length ≤ 5000) := Lib.hid (by have := HBL.out; have := HSM.out; simp only at *; omega)
      obtain ⟨L, hL⟩ : ∃ L, L = segH (ansH h) ++ 13 :: (makeD msaB h.d.a [cd.data.toList, h.a7.data.toList] ++ [13]) := ⟨_, rfl⟩
      simp only at hBs
      rw [← hL] at HR HN4 hBs
      rw [show ((segH (ansH h) ++ 13 :: (makeD msaB h.d.a [cd.data.toList, h.a7.data.toList] ++ [13]), (0 : Int)) : List UInt8 × Int) = (L, 0) from by rw [hL]]
      have HBS := Lib.hid hBs
      clear hw hL hg hst hBs HBL k1 k2
      go_wp2_with (fail)
      refine (ackRead A4 L.length cp4 L w4 (HV.out _ HB4.out) HBS.out (by have := HN4.out; omega)).mono ?_
      rw [HR.out.2]
      rintro e w5 ⟨rfl, hb5⟩
      have HZ6 : Hid (BoxA cd h.a7 w5.heap.size (w5.alloc (.cells #[.string cd, .string h.a7] 39))) := Lib.hid (heap_alloc_new w5 _)
      have hb6 : Below w4.heap.size w4 (w5.alloc (.cells #[.string cd, .string h.a7] 39)) := hb5.alloc hb5.size _
      have HX6 := Lib.hid (HX4.out.below hb6)
      have HB6 := Lib.hid (HB4.out.trans (hb6.mono HB4.out.size))
      have HBS6 := Lib.hid (HBS.out.below hb6)
      clear hb5 hb6 HX4 HB4 HBS
      go_wp2_with (fail)
      generalize w5.alloc (.cells #[.string cd, .string h.a7] 39) = w6 at *
      generalize w5.heap.size = gz at *
      refine (read_ A4 L.length cp4 L w6 HBS6.out (by have := HN4.out; omega)).mono ?_
      rw [HR.out.1]
      rintro e w7 ⟨rfl, hb7⟩
      obtain ⟨a, ha⟩ : ∃ a, a = ansH h := ⟨_, rfl⟩
      rw [← ha]
      have ed : a.d = h.d := by rw [ha]; rfl
      have e0 : a.a0 = h.a2 := by rw [ha]; rfl
      have e3 : a.a3 = h.a1 := by rw [ha]; rfl
      have e6 : a.a6 = ⟨#[65, 67, 75]⟩ := by rw [ha]; rfl
      have e7 : a.a7 = h.a7 := by rw [ha]; rfl
      have HY8 : Hid (BoxH a w7.heap.size (w7.alloc (.cells a.cells TH))) := Lib.hid (BoxH.new a w7)
      have hb8 : Below w6.heap.size w6 (w7.alloc (.cells a.cells TH)) := hb7.alloc hb7.size _
      have HX8 : Hid (BoxH h w.heap.size (w7.alloc (.cells a.cells TH))) := Lib.hid (HX6.out.below hb8)
      have HZ8 : Hid (BoxA cd h.a7 gz (w7.alloc (.cells a.cells TH))) := Lib.hid (HZ6.out.below hb8)
      have HB8 : Hid (Below w.heap.size w (w7.alloc (.cells a.cells TH))) := Lib.hid (HB6.out.trans (hb8.mono HB6.out.size))
      obtain ⟨c0, c1, c2, c3, c4, c5, c6, c7, c8, c9, c10, c11, c12, c13, c14⟩ := HX8.out.cells
      obtain ⟨d0, d1, d2, d3, d4, d5, d6, d7, d8, d9, d10, d11, d12, d13, d14⟩ := HY8.out.cells
      obtain ⟨z0, z1⟩ := HZ8.out.cells
      rw [ed] at d0 d1 d2 d3 d4
      rw [e0] at d5
      rw [e3] at d8
      rw [e6] at d11
      rw [e7] at d12
      have heq := fun W => ack_self cd h.a7 W
      have hes := fun W => sgn_eq h.d W
      have hk6 : ((ByteArray.mk #[65, 67, 75]).toList == [65, 67, 75]) = true := by rw [Go.ByteArray.toList_eq]; rfl
      clear hb7 hb8 ha ed e0 e3 e6 e7 HX6 HB6 HBS6 HR c5 c8 c9 c10 c11 c13 c14 d6 d7 d9 d10 d13 d14
      go_wp2_with (fail)
      go_ret
      exact ⟨rfl, HB8.out⟩
  · clear hgr
    go_wp2_with (fail)
    refine (alive10 w2 (HV.out _ HB2.out)).mono ?_
    rintro e w3 ⟨rfl, hbA⟩
    have HBA := Lib.hid (HB2.out.trans (hbA.mono HB2.out.size))
    clear hbA
    go_wp2_with (fail)
    go_ret
    exact ⟨rfl, HBA.out⟩
end Go.Proofs.YtbgjhpkjdcbclaaDoor