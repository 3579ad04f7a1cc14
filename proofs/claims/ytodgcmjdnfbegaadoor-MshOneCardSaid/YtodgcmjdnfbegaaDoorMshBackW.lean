/- MshBack, walked. -/
import Derived.Test.YtodgcmjdnfbegaaDoorMshEG
import Derived.Test.YtodgcmjdnfbegaaDoorMsh5
import Derived.Test.YtodgcmjdnfbegaaDoorConv
import Derived.Test.YtodgcmjdnfbegaaDoorHeld
namespace Go.Proofs.YtodgcmjdnfbegaaDoor
open Go.RowKit

set_option maxHeartbeats 8000000 in
set_option maxRecDepth 100000 in
theorem mshBack_walk (h : Hd) (A : Option Addr) (n cp : Nat) (l : List UInt8) (w : World) (hv : Vers w) (hB : Bs w A n cp l) (_hcp : cp ≤ 140737488351232) (ht : Lib.lens (h.l.map (·.data.toList)) ≤ 1048576) :
    Calls Tryd.prog 5 #[h.v, .slice A n cp] w (True_ w) := by
  have hnm := hB.nmax
  have hs : h.sum ≤ 1048576 := by rw [h.sum_eq]; exact ht
  have HS := Lib.hid hs
  have HX0 := Lib.hid (BoxH.new h w)
  have HB0 := Lib.hid (boxHd_below h w)
  have HV := Lib.hid (fun W (hb : Below w.heap.size w W) => hv.below hb)
  have HBL := Lib.hid hB
  have HE := Lib.hid (writeH_cases h)
  have HSL := Lib.hid (segH_len h)
  have HSM := Lib.hid h.sum_eq
  clear hv hB ht hs
  go_enter Tryd.func5, Tryd.ntmps5
  obtain ⟨c0, c1, c2, c3, c4, c5, c6, c7, c8, c9, c10, c11, c12, c13, c14⟩ := HX0.out.cells
  by_cases hbig : 1000 < n
  · have d2 : decide ((1000 : Int) < (n : Int)) = true := by simp; omega
    go_wp2_with (fail)
    generalize w.alloc (.cells #[u8 h.d.a, u8 h.d.b, u8 h.d.c, u8 h.d.d, u8 h.d.e, .string h.a0, .string h.a1, .string h.a2, .string h.a3, .string h.a4, .string h.a5, .string h.a6, .string h.a7, .string h.a8, .string h.a9] TH) = w0 at *
    clear c0 c1 c2 c3 c4 c5 c6 c7 c8 c9 c10 c11 c12 c13 c14
    refine (great_head h w0 HS.out rfl rfl).mono ?_
    rintro e w1 ⟨rfl, hb1⟩
    have HB1 := Lib.hid (HB0.out.trans (hb1.mono HB0.out.size))
    clear hb1
    cases hgr : decide (3000 < h.sum)
    all_goals
      clear hgr
      go_wp2_with (fail)
      refine (alive09 w1 (HV.out w1 HB1.out)).mono ?_
      rintro e w2 ⟨rfl, hb2⟩
      have HB2 := Lib.hid (HB1.out.trans (hb2.mono HB1.out.size))
      clear hb2
      go_wp2_with (fail)
      go_ret
      exact ⟨rfl, HB2.out⟩
  have d2 : decide ((1000 : Int) < (n : Int)) = false := by simp; omega
  have HN : Hid (n ≤ 1000) := Lib.hid (by omega)
  clear hbig
  go_wp2_with (fail)
  generalize w.alloc (.cells #[u8 h.d.a, u8 h.d.b, u8 h.d.c, u8 h.d.d, u8 h.d.e, .string h.a0, .string h.a1, .string h.a2, .string h.a3, .string h.a4, .string h.a5, .string h.a6, .string h.a7, .string h.a8, .string h.a9] TH) = w0 at *
  clear c0 c1 c2 c3 c4 c5 c6 c7 c8 c9 c10 c11 c12 c13 c14
  refine (great_head h w0 HS.out rfl rfl).mono ?_
  rintro e w1 ⟨rfl, hb1⟩
  have HX1 := Lib.hid (HX0.out.below hb1)
  have HB1 := Lib.hid (HB0.out.trans (hb1.mono HB0.out.size))
  clear hb1
  cases hgr : decide (3000 < h.sum)
  · have HSM3 : Hid (h.sum ≤ 3000) := Lib.hid (by have := of_decide_eq_false hgr; omega)
    clear hgr
    obtain ⟨c0, c1, c2, c3, c4, c5, c6, c7, c8, c9, c10, c11, c12, c13, c14⟩ := HX1.out.cells
    go_wp2_with (fail)
    clear c0 c1 c2 c3 c4 c5 c6 c7 c8 c9 c10 c11 c12 c13 c14
    refine (write_ h w1 (by have := HSM3.out; have := HSM.out; omega)).mono ?_
    rintro e w2 ⟨rfl, hb2⟩
    have HX2 := Lib.hid (HX1.out.below hb2)
    have HB2 := Lib.hid (HB1.out.trans (hb2.mono HB1.out.size))
    clear hb2
    rcases HE.out with hw | hw | ⟨hw, hg, hst⟩
    · rw [hw]
      rw [show str (([], (11 : Int)) : List UInt8 × Int).1 = Value.string ⟨#[]⟩ from rfl]
      clear hw
      go_wp2_with (fail)
      refine (alive09 w2 (HV.out w2 HB2.out)).mono ?_
      rintro e w3 ⟨rfl, hb3⟩
      have HB3 := Lib.hid (HB2.out.trans (hb3.mono HB2.out.size))
      clear hb3
      go_wp2_with (fail)
      go_ret
      exact ⟨rfl, HB3.out⟩
    · rw [hw]
      rw [show str (([], (10 : Int)) : List UInt8 × Int).1 = Value.string ⟨#[]⟩ from rfl]
      clear hw
      go_wp2_with (fail)
      refine (alive09 w2 (HV.out w2 HB2.out)).mono ?_
      rintro e w3 ⟨rfl, hb3⟩
      have HB3 := Lib.hid (HB2.out.trans (hb3.mono HB2.out.size))
      clear hb3
      go_wp2_with (fail)
      go_ret
      exact ⟨rfl, HB3.out⟩
    · have HRW := Lib.hid (read_write hg hst)
      rw [hw]
      clear hw hg hst
      obtain ⟨S, hS⟩ : ∃ S, S = segH h := ⟨_, rfl⟩
      rw [← hS] at HRW HSL ⊢
      clear hS
      obtain ⟨N, hN⟩ : ∃ N, S.length = N := ⟨_, rfl⟩
      have HNN : Hid (N ≤ 3018) := Lib.hid (by have := HSL.out; have := HSM3.out; omega)
      have hts : (txt S).size = N := by rw [txt_size, hN]
      have hno : ¬ 9223372036854775807 < N + 1 := by have := HNN.out; omega
      have HL := Lib.hid hN
      clear HSL hN
      go_wp2_with (fail)
      rw [show (ByteArray.mk #[13]) = txt [13] from rfl, txt_app]
      obtain ⟨cap3, w3, hrun3, hC3, hb3⟩ := conv_list (P := Tryd.prog) w2 9 22 5 (S ++ [13]) (N + 1) Tryd.underlying9 Tryd.underlying22 Tryd.underlying5 (by rw [List.length_append, HL.out]; rfl) (by have := HNN.out; simp only [maxLen]; omega)
      rw [hrun3]
      have HC3 := Lib.hid hC3
      have HBS3 := Lib.hid (HBL.out.below (HB2.out.trans (hb3.mono HB2.out.size)))
      have Hb3 := Lib.hid hb3
      clear hrun3 hC3 hb3 hts hno
      have tok1 : Hid True := Lib.hid trivial
      go_wp2_with (at_builtin; have _t := tok1; go_loud ((refine wpList_appC rfl (.tmp 40) (.tmp 41) 22 rfl 5 Tryd.underlying22 byteInfo rfl HC3.out rfl HBS3.out (Hb3.out.size) (by have := HNN.out; have := HN.out; omega) ?_; intro B4 c4 w4 hB4 hb4; have HB4 := Lib.hid hB4; have Hb4 := Lib.hid (Hb3.out.trans hb4); clear tok1 hB4 hb4 _t)))
      refine (read_ B4 (N + 1 + n) c4 (S ++ [13] ++ l) w4 HB4.out (by have := HNN.out; have := HN.out; omega)).mono ?_
      rw [show readH (S ++ [13] ++ l) = (h, 0) from by rw [List.append_assoc]; exact HRW.out l]
      rintro e w5 ⟨rfl, hb5⟩
      have b25 := Hb4.out.trans (hb5.mono Hb4.out.size)
      have HX5 := Lib.hid (HX2.out.below b25)
      have HB5 : Hid (Below w.heap.size w w5) := Lib.hid (HB2.out.trans (b25.mono HB2.out.size))
      clear b25 hb5 HB4 Hb4 HC3 HBS3 Hb3 HX2 HB2
      go_wp2_with (fail)
      have HY6 : Hid (BoxH h w5.heap.size (w5.alloc (.cells h.cells TH))) := Lib.hid (BoxH.new h w5)
      have HX6 : Hid (BoxH h w.heap.size (w5.alloc (.cells h.cells TH))) := Lib.hid (HX5.out.below (boxHd_below h w5))
      have HB6 : Hid (Below w.heap.size w (w5.alloc (.cells h.cells TH))) := Lib.hid (HB5.out.alloc HB5.out.size _)
      obtain ⟨G5, hG5⟩ : ∃ y, y = w5.heap.size := ⟨_, rfl⟩
      rw [← hG5] at HY6 ⊢
      clear hG5
      generalize w5.alloc (.cells #[u8 h.d.a, u8 h.d.b, u8 h.d.c, u8 h.d.d, u8 h.d.e, .string h.a0, .string h.a1, .string h.a2, .string h.a3, .string h.a4, .string h.a5, .string h.a6, .string h.a7, .string h.a8, .string h.a9] TH) = w6 at *
      refine (alive09 w6 (HV.out w6 HB6.out)).mono ?_
      rintro e w7 ⟨rfl, hb7⟩
      have HX7 := Lib.hid (HX6.out.below hb7)
      have HY7 := Lib.hid (HY6.out.below hb7)
      have HB7 := Lib.hid (HB6.out.trans (hb7.mono HB6.out.size))
      clear hb7
      obtain ⟨c0, c1, c2, c3, c4, c5, c6, c7, c8, c9, c10, c11, c12, c13, c14⟩ := HX7.out.cells
      obtain ⟨q0, q1, q2, q3, q4, q5, q6, q7, q8, q9, q10, q11, q12, q13, q14⟩ := HY7.out.cells
      have heq := fun w => head_self h w
      go_wp2_with (fail)
      go_ret
      exact ⟨rfl, HB7.out⟩
  · clear hgr
    go_wp2_with (fail)
    refine (alive09 w1 (HV.out w1 HB1.out)).mono ?_
    rintro e w2 ⟨rfl, hb2⟩
    have HB2 := Lib.hid (HB1.out.trans (hb2.mono HB1.out.size))
    clear hb2
    go_wp2_with (fail)
    go_ret
    exact ⟨rfl, HB2.out⟩
end Go.Proofs.YtodgcmjdnfbegaaDoor
