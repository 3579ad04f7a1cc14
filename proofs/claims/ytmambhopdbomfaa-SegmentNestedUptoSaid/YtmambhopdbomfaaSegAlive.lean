/- Layer 8: the document's examples, walked. -/
import Derived.Test.YtmambhopdbomfaaSeg5
import Derived.Test.YtmambhopdbomfaaLater
namespace Go.Proofs.Ytmambhopdbomfaa
open Go.RowKit

/-- the plain signs -/
def plainS : Sgn := ⟨124, 94, 126, 92, 38⟩

theorem plain_ (w : World) : Calls Try.prog 30 #[] w fun e w' => e = .returned plainS.v ∧ Below w.heap.size w w' := by
  have hb0 : Below w.heap.size w (w.alloc (.cells #[.int .u8 124, .int .u8 94, .int .u8 126, .int .u8 92, .int .u8 38] 33)) := (Below.refl _ w).alloc (Nat.le_refl _) _
  go_enter Try.func30, Try.ntmps30
  go_wp2_with (fail)
  refine bodyPost_ret (v := plainS.v) ?_ rfl ⟨rfl, hb0⟩
  simp [results, Try.results30, go_sem]
  decide

theorem alive_ (w : World) : Calls Try.prog 11 #[] w (True_ w) := by
  have H1 : Hid (nthD (fieldsD ⟨#[80, 73, 68, 124, 97, 94, 98, 126, 99, 124, 100]⟩ plainS.a) 1 = some [97, 94, 98, 126, 99]) := Lib.hid (by decide +kernel)
  have H2 : Hid (nthD (partsD (txt [97, 94, 98, 126, 99]) plainS 2) 1 = some [99]) := Lib.hid (by decide +kernel)
  have H3 : Hid (nthD (fieldsD ⟨#[77, 83, 72, 124, 94, 126, 92, 38, 124, 120]⟩ plainS.a) 2 = some [94, 126, 92, 38]) := Lib.hid (by decide +kernel)
  have t1 : ((txt [97, 94, 98, 126, 99]).toList == [97, 94, 98, 126, 99]) = true := by rw [Go.ByteArray.toList_eq]; rfl
  have t2 : ((txt [99]).toList == [99]) = true := by rw [Go.ByteArray.toList_eq]; rfl
  have t3 : ((txt [94, 126, 92, 38]).toList == [94, 126, 92, 38]) = true := by rw [Go.ByteArray.toList_eq]; rfl
  go_enter Try.func11, Try.ntmps11
  go_wp2_with (fail)
  refine (plain_ w).mono ?_
  rintro e w1 ⟨rfl, hb1⟩
  have HB1 := Lib.hid hb1
  clear hb1
  go_wp2_with (fail)
  refine (field_ _ 1 plainS w1 (by decide) (by decide) (by decide)).mono ?_
  rintro e w2 ⟨rfl, hb2⟩
  have HB2 := Lib.hid (HB1.out.trans (hb2.mono HB1.out.size))
  rw [H1.out]
  clear hb2
  go_wp2_with (fail)
  refine (plain_ w2).mono ?_
  rintro e w3 ⟨rfl, hb3⟩
  have HB3 := Lib.hid (HB2.out.trans (hb3.mono HB2.out.size))
  clear hb3
  go_wp2_with (fail)
  refine (part_ _ 2 1 plainS w3 (by decide)).mono ?_
  rintro e w4 ⟨rfl, hb4⟩
  have HB4 := Lib.hid (HB3.out.trans (hb4.mono HB3.out.size))
  rw [H2.out]
  clear hb4
  go_wp2_with (fail)
  refine (plain_ w4).mono ?_
  rintro e w5 ⟨rfl, hb5⟩
  have HB5 := Lib.hid (HB4.out.trans (hb5.mono HB4.out.size))
  clear hb5
  go_wp2_with (fail)
  refine (field_ _ 2 plainS w5 (by decide) (by decide) (by decide)).mono ?_
  rintro e w6 ⟨rfl, hb6⟩
  have HB6 := Lib.hid (HB5.out.trans (hb6.mono HB5.out.size))
  rw [H3.out]
  clear hb6
  go_wp2_with (fail)
  go_ret
  exact ⟨rfl, HB6.out⟩
end Go.Proofs.Ytmambhopdbomfaa
