/- AckTwice, walked. -/
import Derived.Test.YtbgjhpkjdcbclaaDoorAckA
import Derived.Test.YtbgjhpkjdcbclaaDoorOpenAck
namespace Go.Proofs.YtbgjhpkjdcbclaaDoor
open Go.RowKit

set_option maxHeartbeats 16000000 in
set_option maxRecDepth 100000 in
theorem ackTwice_walk (h : Hd) (w : World) (hv : Cds w) (ht : Lib.lens (h.l.map (·.data.toList)) ≤ 1048576) :
    Calls Tryd.prog 6 #[h.v] w (True_ w) := by
  have HS := Lib.hid (show h.sum ≤ 1048576 by rw [h.sum_eq]; exact ht)
  have HX0 := Lib.hid (BoxH.new h w)
  have HB0 := Lib.hid (boxHd_below h w)
  have HV := Lib.hid (fun W (hb : Below w.heap.size w W) => hv.below hb)
  clear hv ht
  go_enter Tryd.func6, Tryd.ntmps6
  obtain ⟨c0, c1, c2, c3, c4, c5, c6, c7, c8, c9, c10, c11, c12, c13, c14⟩ := HX0.out.cells
  go_wp2_with (fail)
  generalize w.alloc (.cells #[u8 h.d.a, u8 h.d.b, u8 h.d.c, u8 h.d.d, u8 h.d.e, .string h.a0, .string h.a1, .string h.a2, .string h.a3, .string h.a4, .string h.a5, .string h.a6, .string h.a7, .string h.a8, .string h.a9] TH) = w0 at *
  clear c0 c1 c2 c3 c4 c5 c6 c7 c8 c9 c10 c11 c12 c13 c14
  refine (great10 h w0 HS.out rfl rfl).mono ?_
  rintro e w1 ⟨rfl, hb1⟩
  have HX1 := Lib.hid (HX0.out.below hb1)
  have HB1 := Lib.hid (HB0.out.trans (hb1.mono HB0.out.size))
  clear hb1 HX0 HB0
  cases hgr : decide (2000 < h.sum)
  · have HSM : Hid (h.sum ≤ 2000) := Lib.hid (by have := of_decide_eq_false hgr; omega)
    clear hgr
    obtain ⟨c0, c1, c2, c3, c4, c5, c6, c7, c8, c9, c10, c11, c12, c13, c14⟩ := HX1.out.cells
    go_wp2_with (fail)
    clear c0 c1 c2 c3 c4 c5 c6 c7 c8 c9 c10 c11 c12 c13 c14
    refine (ackBuild h (cB 0) w1 (HV.out _ HB1.out) (by have := HSM.out; omega) (by decide)).mono ?_
    rintro e w2 ⟨A2, cp2, rfl, hBs, hb2⟩
    have HX2 := Lib.hid (HX1.out.below hb2)
    have HB2 := Lib.hid (HB1.out.trans (hb2.mono HB1.out.size))
    have HBL := Lib.hid (buildD_len h (cB 0))
    clear hb2 HX1 HB1
    rcases buildD_known (h := h) (code := cB 0) (by decide +kernel) with hw | hw | ⟨hw, hg, hst⟩
    · rw [hw]
      clear hw hBs HBL
      go_wp2_with (fail)
      refine (alive10 w2 (HV.out _ HB2.out)).mono ?_
      rintro e w3 ⟨rfl, hbA⟩
      have HBA := Lib.hid (HB2.out.trans (hbA.mono HB2.out.size))
      clear hbA
      go_wp2_with (fail)
      go_ret
      exact ⟨rfl, HBA.out⟩
    · rw [hw]
      clear hw hBs HBL
      go_wp2_with (fail)
      refine (alive10 w2 (HV.out _ HB2.out)).mono ?_
      rintro e w3 ⟨rfl, hbA⟩
      have HBA := Lib.hid (HB2.out.trans (hbA.mono HB2.out.size))
      clear hbA
      go_wp2_with (fail)
      go_ret
      exact ⟨rfl, HBA.out⟩
    · have HR := Lib.hid (build_read (h := h) (code := cB 0) (by decide +kernel) hg hst (makeD msaB h.d.a [(cB 0).data.toList, h.a7.data.toList] ++ [13])).1
      have HG := Lib.hid hg
      have HST := Lib.hid (stand_twice hst)
      rw [hw] at hBs HBL ⊢
      have HN2 : Hid ((segH (ansH h) ++ 13 :: (makeD msaB h.d.a [(cB 0).data.toList, h.a7.data.toList] ++ [13])).length ≤ 5000) := Lib.hid (by have h1 := HBL.out; have h2 := HSM.out; have h3 := size_cB 0 (by decide); simp only at *; omega)
      obtain ⟨L, hL⟩ : ∃ L, L = segH (ansH h) ++ 13 :: (makeD msaB h.d.a [(cB 0).data.toList, h.a7.data.toList] ++ [13]) := ⟨_, rfl⟩
      simp only at hBs
      rw [← hL] at HR HN2 hBs
      rw [show ((segH (ansH h) ++ 13 :: (makeD msaB h.d.a [(cB 0).data.toList, h.a7.data.toList] ++ [13]), (0 : Int)) : List UInt8 × Int) = (L, 0) from by rw [hL]]
      have HBS := Lib.hid hBs
      have HAS := Lib.hid (ansH_sum h)
      clear hw hL hg hst hBs HBL
      go_wp2_with (fail)
      refine (read_ A2 L.length cp2 L w2 HBS.out (by have := HN2.out; omega)).mono ?_
      rw [HR.out]
      rintro e w3 ⟨rfl, hb3⟩
      obtain ⟨q, hq⟩ : ∃ q, q = ansH h := ⟨_, rfl⟩
      have HQ := Lib.hid hq
      rw [← hq]
      rw [← hq] at HAS HST
      have HX3 := Lib.hid (HX2.out.below hb3)
      have HB3 := Lib.hid (HB2.out.trans (hb3.mono HB2.out.size))
      have HY4 : Hid (BoxH q w3.heap.size (w3.alloc (.cells q.cells TH))) := Lib.hid (BoxH.new q w3)
      have HX4 : Hid (BoxH h w.heap.size (w3.alloc (.cells q.cells TH))) := Lib.hid (HX3.out.below (boxHd_below q w3))
      have HB4 : Hid (Below w.heap.size w (w3.alloc (.cells q.cells TH))) := Lib.hid (HB3.out.alloc HB3.out.size _)
      clear hb3 hq HX2 HB2 HX3 HB3 HBS HR
      obtain ⟨c0, c1, c2, c3, c4, c5, c6, c7, c8, c9, c10, c11, c12, c13, c14⟩ := HY4.out.cells
      go_wp2_with (fail)
      generalize w3.alloc (.cells #[u8 q.d.a, u8 q.d.b, u8 q.d.c, u8 q.d.d, u8 q.d.e, .string q.a0, .string q.a1, .string q.a2, .string q.a3, .string q.a4, .string q.a5, .string q.a6, .string q.a7, .string q.a8, .string q.a9] TH) = w4 at *
      clear c0 c1 c2 c3 c4 c5 c6 c7 c8 c9 c10 c11 c12 c13 c14 HY4
      refine (ackBuild q (cB 2) w4 (HV.out _ HB4.out) (by have := HSM.out; have := HAS.out; omega) (by decide)).mono ?_
      rintro e w5 ⟨A5, cp5, rfl, hBs, hb5⟩
      have HX5 := Lib.hid (HX4.out.below hb5)
      have HB5 := Lib.hid (HB4.out.trans (hb5.mono HB4.out.size))
      have HBL := Lib.hid (buildD_len q (cB 2))
      have hgq : q.d.good = true := by rw [HQ.out]; exact HG.out
      have hw : buildD q (cB 2) = (segH (ansH q) ++ 13 :: (makeD msaB q.d.a [(cB 2).data.toList, q.a7.data.toList] ++ [13]), 0) := by
        rcases buildD_known (h := q) (code := cB 2) (by decide +kernel) with hw | hw | ⟨hw, _, _⟩
        · exfalso
          have e : writeH (ansH q) = (segH (ansH q), 0) := writeH_good (h := ansH q) hgq HST.out
          unfold buildD at hw
          rw [if_pos (by decide +kernel), e, if_pos rfl] at hw
          cases congrArg Prod.snd hw
        · exfalso
          have e : writeH (ansH q) = (segH (ansH q), 0) := writeH_good (h := ansH q) hgq HST.out
          unfold buildD at hw
          rw [if_pos (by decide +kernel), e, if_pos rfl] at hw
          cases congrArg Prod.snd hw
        · exact hw
      have HR := Lib.hid (build_read (h := q) (code := cB 2) (by decide +kernel) hgq HST.out (makeD msaB q.d.a [(cB 2).data.toList, q.a7.data.toList] ++ [13])).1
      rw [hw] at hBs HBL ⊢
      have HN5 : Hid ((segH (ansH q) ++ 13 :: (makeD msaB q.d.a [(cB 2).data.toList, q.a7.data.toList] ++ [13])).length ≤ 5000) := Lib.hid (by have h1 := HBL.out; have h2 := HSM.out; have h4 := HAS.out; have h3 := size_cB 2 (by decide); simp only at *; omega)
      obtain ⟨L5, hL⟩ : ∃ L5, L5 = segH (ansH q) ++ 13 :: (makeD msaB q.d.a [(cB 2).data.toList, q.a7.data.toList] ++ [13]) := ⟨_, rfl⟩
      simp only at hBs
      rw [← hL] at HR HN5 hBs
      rw [show ((segH (ansH q) ++ 13 :: (makeD msaB q.d.a [(cB 2).data.toList, q.a7.data.toList] ++ [13]), (0 : Int)) : List UInt8 × Int) = (L5, 0) from by rw [hL]]
      have HBS := Lib.hid hBs
      clear hw hL hgq hBs HBL hb5 HX4 HB4
      go_wp2_with (fail)
      refine (read_ A5 L5.length cp5 L5 w5 HBS.out (by have := HN5.out; omega)).mono ?_
      rw [HR.out]
      rintro e w6 ⟨rfl, hb6⟩
      rw [HQ.out]
      have HX6 := Lib.hid (HX5.out.below hb6)
      have HB6 := Lib.hid (HB5.out.trans (hb6.mono HB5.out.size))
      obtain ⟨a, ha⟩ : ∃ a, a = ansH (ansH h) := ⟨_, rfl⟩
      rw [← ha]
      have e0 : Hid (a.a0 = h.a0) := Lib.hid (by rw [ha]; rfl)
      have e1 : Hid (a.a1 = h.a1) := Lib.hid (by rw [ha]; rfl)
      have e2 : Hid (a.a2 = h.a2) := Lib.hid (by rw [ha]; rfl)
      have e3 : Hid (a.a3 = h.a3) := Lib.hid (by rw [ha]; rfl)
      have e4 : Hid (a.a4 = h.a4) := Lib.hid (by rw [ha]; rfl)
      have e7 : Hid (a.a7 = h.a7) := Lib.hid (by rw [ha]; rfl)
      have e9 : Hid (a.a9 = h.a9) := Lib.hid (by rw [ha]; rfl)
      have HY7 : Hid (BoxH a w6.heap.size (w6.alloc (.cells a.cells TH))) := Lib.hid (BoxH.new a w6)
      have HX7 : Hid (BoxH h w.heap.size (w6.alloc (.cells a.cells TH))) := Lib.hid (HX6.out.below (boxHd_below a w6))
      have HB7 : Hid (Below w.heap.size w (w6.alloc (.cells a.cells TH))) := Lib.hid (HB6.out.alloc HB6.out.size _)
      clear hb6 ha HX5 HB5 HX6 HB6 HBS HR
      go_wp2_with (fail)
      generalize w6.alloc (.cells #[u8 a.d.a, u8 a.d.b, u8 a.d.c, u8 a.d.d, u8 a.d.e, .string a.a0, .string a.a1, .string a.a2, .string a.a3, .string a.a4, .string a.a5, .string a.a6, .string a.a7, .string a.a8, .string a.a9] TH) = w7 at *
      generalize w6.heap.size = g at *
      refine (alive10 w7 (HV.out _ HB7.out)).mono ?_
      rintro e w8 ⟨rfl, hb8⟩
      have HY8 := Lib.hid (HY7.out.below hb8)
      have HX8 := Lib.hid (HX7.out.below hb8)
      have HB8 := Lib.hid (HB7.out.trans (hb8.mono HB7.out.size))
      obtain ⟨c0, c1, c2, c3, c4, c5, c6, c7, c8, c9, c10, c11, c12, c13, c14⟩ := HX8.out.cells
      obtain ⟨d0, d1, d2, d3, d4, d5, d6, d7, d8, d9, d10, d11, d12, d13, d14⟩ := HY8.out.cells
      rw [e0.out] at d5
      rw [e1.out] at d6
      rw [e2.out] at d7
      rw [e3.out] at d8
      rw [e4.out] at d9
      rw [e7.out] at d12
      rw [e9.out] at d14
      clear hb8 e0 e1 e2 e3 e4 e7 e9 c0 c1 c2 c3 c4 c10 c11 c13 d0 d1 d2 d3 d4 d10 d11 d13
      go_wp2_with (fail)
      go_ret
      exact ⟨rfl, HB8.out⟩
  · clear hgr
    go_wp2_with (fail)
    refine (alive10 w1 (HV.out _ HB1.out)).mono ?_
    rintro e w2 ⟨rfl, hbA⟩
    have HBA := Lib.hid (HB1.out.trans (hbA.mono HB1.out.size))
    clear hbA
    go_wp2_with (fail)
    go_ret
    exact ⟨rfl, HBA.out⟩
end Go.Proofs.YtbgjhpkjdcbclaaDoor