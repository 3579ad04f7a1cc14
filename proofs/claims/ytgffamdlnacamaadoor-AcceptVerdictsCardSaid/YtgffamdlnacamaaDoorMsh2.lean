/- Layer 9: what is wrong with a head, walked. -/
import Derived.Test.YtgffamdlnacamaaDoorMsh1
namespace Go.Proofs.YtgffamdlnacamaaDoor
open Go.RowKit

def procD (s : ByteArray) : Bool := s.toList == [80] || s.toList == [68] || s.toList == [84]
/-- what is wrong with a head -/
def checkD (h : Hd) : Int := if h.a6.toList.isEmpty || h.a7.toList.isEmpty || decide (50 < h.a7.size) then 14 else if !knownD (txt (firstD h.a9 h.d)) then 12 else if !procD (txt (firstD h.a8 h.d)) then 13 else 0

set_option maxHeartbeats 4000000 in
set_option maxRecDepth 100000 in
theorem check_ (h : Hd) (w : World) (hv : Vers w) (h8 : h.a8.size ≤ 1000000000) (h9 : h.a9.size ≤ 1000000000) : Calls Tryd.prog 19 #[h.v] w fun e w' => e = .returned (.int .i64 (checkD h)) ∧ Below w.heap.size w w' := by
  have HX0 := Lib.hid (BoxH.new h w)
  have HB0 := Lib.hid (boxHd_below h w)
  have HV0 := Lib.hid (hv.below (boxHd_below h w))
  have H8 := Lib.hid h8
  have H9 := Lib.hid h9
  have HC : Hid (checkD h = if h.a6.toList.isEmpty || h.a7.toList.isEmpty || decide (50 < h.a7.size) then 14 else if !knownD (txt (firstD h.a9 h.d)) then 12 else if !procD (txt (firstD h.a8 h.d)) then 13 else 0) := Lib.hid rfl
  clear hv h8 h9
  go_enter Tryd.func19, Tryd.ntmps19
  obtain ⟨c0, c1, c2, c3, c4, c5, c6, c7, c8, c9, c10, c11, c12, c13, c14⟩ := HX0.out.cells
  cases d6 : h.a6.toList.isEmpty
  · cases d7 : h.a7.toList.isEmpty
    · by_cases h50 : 50 < h.a7.size
      · have d50 : decide ((50 : Int) < (h.a7.size : Int)) = true := by simp; omega
        have d51 : decide (50 < h.a7.size) = true := by simpa using h50
        have HE : Hid (checkD h = 14) := Lib.hid (by rw [HC.out, d6, d7, d51]; rfl)
        go_wp2_with (fail)
        go_ret
        rw [HE.out]; exact ⟨rfl, HB0.out⟩
      · have d50 : decide ((50 : Int) < (h.a7.size : Int)) = false := by simp; omega
        have d51 : decide (50 < h.a7.size) = false := by simpa using h50
        have HE : Hid (checkD h = if !knownD (txt (firstD h.a9 h.d)) then 12 else if !procD (txt (firstD h.a8 h.d)) then 13 else 0) := Lib.hid (by rw [HC.out, d6, d7, d51]; rfl)
        go_wp2_with (fail)
        generalize (w.alloc (.cells #[u8 h.d.a, u8 h.d.b, u8 h.d.c, u8 h.d.d, u8 h.d.e, .string h.a0, .string h.a1, .string h.a2, .string h.a3, .string h.a4, .string h.a5, .string h.a6, .string h.a7, .string h.a8, .string h.a9] TH)) = w0 at *
        refine (asked_ h.a9 h.d w0 (by have := H9.out; omega)).mono ?_
        rintro e w1 ⟨rfl, hb1⟩
        have HB1 := Lib.hid (HB0.out.trans (hb1.mono HB0.out.size))
        have HX1 := Lib.hid (HX0.out.below hb1)
        have HV1 := Lib.hid (HV0.out.below hb1)
        clear hb1 HX0 HB0 HV0 c0 c1 c2 c3 c4 c5 c6 c7 c8 c9 c10 c11 c12 c13 c14
        go_wp2_with (fail)
        refine (knownVersion_ (txt (firstD h.a9 h.d)) w1 HV1.out).mono ?_
        rintro e w2 ⟨rfl, rfl⟩
        obtain ⟨c0, c1, c2, c3, c4, c5, c6, c7, c8, c9, c10, c11, c12, c13, c14⟩ := HX1.out.cells
        cases dk : knownD (txt (firstD h.a9 h.d))
        · have HE2 : Hid (checkD h = 12) := Lib.hid (by rw [HE.out, dk]; rfl)
          go_wp2_with (fail)
          go_ret
          rw [HE2.out]; exact ⟨rfl, HB1.out⟩
        · have HE2 : Hid (checkD h = if !procD (txt (firstD h.a8 h.d)) then 13 else 0) := Lib.hid (by rw [HE.out, dk]; rfl)
          go_wp2_with (fail)
          refine (asked_ h.a8 h.d _ (by have := H8.out; omega)).mono ?_
          rintro e w3 ⟨rfl, hb3⟩
          have HB3 := Lib.hid (HB1.out.trans (hb3.mono HB1.out.size))
          clear hb3 c0 c1 c2 c3 c4 c5 c6 c7 c8 c9 c10 c11 c12 c13 c14
          go_wp2_with (fail)
          refine (knownProcess_ (txt (firstD h.a8 h.d)) _).mono ?_
          rintro e w4 ⟨rfl, rfl⟩
          have HPD : Hid (procD (txt (firstD h.a8 h.d)) = ((txt (firstD h.a8 h.d)).toList == [80] || (txt (firstD h.a8 h.d)).toList == [68] || (txt (firstD h.a8 h.d)).toList == [84])) := Lib.hid rfl
          rw [← HPD.out]
          clear HPD
          cases dp : procD (txt (firstD h.a8 h.d))
          · have HE3 : Hid (checkD h = 13) := Lib.hid (by rw [HE2.out, dp]; rfl)
            go_wp2_with (fail)
            go_ret
            rw [HE3.out]; exact ⟨rfl, HB3.out⟩
          · have HE3 : Hid (checkD h = 0) := Lib.hid (by rw [HE2.out, dp]; rfl)
            go_wp2_with (fail)
            go_ret
            rw [HE3.out]; exact ⟨rfl, HB3.out⟩
    · have HE : Hid (checkD h = 14) := Lib.hid (by rw [HC.out, d6, d7]; rfl)
      go_wp2_with (fail)
      go_ret
      rw [HE.out]; exact ⟨rfl, HB0.out⟩
  · have HE : Hid (checkD h = 14) := Lib.hid (by rw [HC.out, d6]; rfl)
    go_wp2_with (fail)
    go_ret
    rw [HE.out]; exact ⟨rfl, HB0.out⟩
end Go.Proofs.YtgffamdlnacamaaDoor
