/- MshReads, walked. -/
import Derived.Test.YtodgcmjdnfbegaaDoorRef09
import Derived.Test.YtodgcmjdnfbegaaDoorMsh5
import Derived.Test.YtodgcmjdnfbegaaDoorMshEG
import Derived.Test.YtodgcmjdnfbegaaDoorMshOneM
namespace Go.Proofs.YtodgcmjdnfbegaaDoor
open Go.RowKit

set_option maxHeartbeats 8000000 in
set_option maxRecDepth 100000 in
theorem mshReads_walk (A : Option Addr) (n cp : Nat) (l : List UInt8) (w : World) (hv : Vers w) (hB : Bs w A n cp l) (_hcp : cp ≤ 140737488351232) :
    Calls Tryd.prog 3 #[.slice A n cp] w (True_ w) := by
  have hnm := hB.nmax
  have HV := Lib.hid (fun W (hb : Below w.heap.size w W) => hv.below hb)
  have HBL := Lib.hid hB
  clear hv hB
  go_enter Tryd.func3, Tryd.ntmps3
  by_cases hbig : 3000 < n
  · have d2 : decide ((3000 : Int) < (n : Int)) = true := by simp; omega
    go_wp2_with (fail)
    refine (alive09 w (HV.out w (Below.refl _ _))).mono ?_
    rintro e w2 ⟨rfl, hb2⟩
    have HB2 := Lib.hid hb2
    clear hb2
    go_wp2_with (fail)
    go_ret
    exact ⟨rfl, HB2.out⟩
  have d2 : decide ((3000 : Int) < (n : Int)) = false := by simp; omega
  have HN : Hid (n ≤ 3000) := Lib.hid (by omega)
  clear hbig
  go_wp2_with (fail)
  refine (read_ A n cp l w HBL.out (by have := HN.out; omega)).mono ?_
  rintro e w1 ⟨rfl, hb1⟩
  have HC := Lib.hid (refRead09 (l := l) (A := A) (n := n) (c := cp))
  obtain ⟨h, hh⟩ : ∃ h, h = (readH l).1 := ⟨_, rfl⟩
  obtain ⟨x, hx⟩ : ∃ x, x = (readH l).2 := ⟨_, rfl⟩
  rw [← hh, ← hx] at HC ⊢
  clear hh hx
  have HX2 : Hid (BoxH h w1.heap.size (w1.alloc (.cells h.cells TH))) := Lib.hid (BoxH.new h w1)
  have HB2 : Hid (Below w.heap.size w (w1.alloc (.cells h.cells TH))) := Lib.hid (hb1.alloc hb1.size _)
  have HBS2 := Lib.hid (HBL.out.below HB2.out)
  clear hb1
  go_wp2_with (fail)
  generalize w1.alloc (.cells #[u8 h.d.a, u8 h.d.b, u8 h.d.c, u8 h.d.d, u8 h.d.e, .string h.a0, .string h.a1, .string h.a2, .string h.a3, .string h.a4, .string h.a5, .string h.a6, .string h.a7, .string h.a8, .string h.a9] TH) = w2 at *
  generalize w1.heap.size = G at *
  refine (HC.out w2 HBS2.out (by have := HN.out; omega)).mono ?_
  rintro e w3 ⟨rfl, hb3⟩
  have HX3 := Lib.hid (HX2.out.below hb3)
  have HB3 := Lib.hid (HB2.out.trans (hb3.mono HB2.out.size))
  have HY4 : Hid (BoxH h w3.heap.size (w3.alloc (.cells h.cells TH))) := Lib.hid (BoxH.new h w3)
  have HX4 : Hid (BoxH h G (w3.alloc (.cells h.cells TH))) := Lib.hid (HX3.out.below (boxHd_below h w3))
  have HB4 : Hid (Below w.heap.size w (w3.alloc (.cells h.cells TH))) := Lib.hid (HB3.out.alloc HB3.out.size _)
  clear hb3 HX2 HB2 HBS2 HX3 HB3
  go_wp2_with (fail)
  generalize w3.alloc (.cells #[u8 h.d.a, u8 h.d.b, u8 h.d.c, u8 h.d.d, u8 h.d.e, .string h.a0, .string h.a1, .string h.a2, .string h.a3, .string h.a4, .string h.a5, .string h.a6, .string h.a7, .string h.a8, .string h.a9] TH) = w4 at *
  generalize w3.heap.size = K at *
  refine (alive09 w4 (HV.out _ HB4.out)).mono ?_
  rintro e w5 ⟨rfl, hb5⟩
  have HX5 := Lib.hid (HX4.out.below hb5)
  have HY5 := Lib.hid (HY4.out.below hb5)
  have HB5 := Lib.hid (HB4.out.trans (hb5.mono HB4.out.size))
  clear hb5 HX4 HY4 HB4
  obtain ⟨c0, c1, c2, c3, c4, c5, c6, c7, c8, c9, c10, c11, c12, c13, c14⟩ := HX5.out.cells
  obtain ⟨d0, d1, d2, d3, d4, d5, d6, d7, d8, d9, d10, d11, d12, d13, d14⟩ := HY5.out.cells
  have heq := fun w => head_self h w
  go_wp2_with (fail)
  go_ret
  exact ⟨rfl, HB5.out⟩
end Go.Proofs.YtodgcmjdnfbegaaDoor
