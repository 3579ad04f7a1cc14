/- Layer 7: the examples, walked. -/
import Derived.Test.YtecmadodpkfnnaaEsc6
namespace Go.Proofs.Ytecmadodpkfnnaa
open Go.RowKit Go.MapKept

abbrev plS : Sgn := ⟨124, 94, 126, 92, 38⟩
theorem plS_good : plS.good = true := by decide
theorem ex7a : encD plS [97, 124, 98, 92, 99] = [97, 92, 70, 92, 98, 92, 69, 92, 99] := by decide +kernel
theorem ex7b : decD plS [92, 88, 48, 68, 48, 65, 92] = .ok [13, 10] := by kernel_rfl
theorem ex7c : decD plS [97, 92, 81, 92] = .error 1 := by kernel_rfl
theorem escPlain (w : World) : Calls Try.prog 18 #[] w fun e w' => e = .returned plS.v ∧ Below w.heap.size w w' := by
  go_enter Try.func18, Try.ntmps18
  go_wp2
  exact bodyPost_ret (v := dlm 124 94 126 92 38) (by simp [results, Try.results18, go_sem]) rfl ⟨rfl, (Below.refl _ w).alloc (Nat.le_refl _) _⟩

set_option maxHeartbeats 2000000 in
set_option maxRecDepth 100000 in
theorem escAlive (w : World) : Calls Try.prog 10 #[] w (True_ w) := by
  go_enter Try.func10, Try.ntmps10
  go_wp2_with (fail)
  refine (escPlain w).mono ?_
  rintro e w1 ⟨rfl, hb1⟩
  have HB1 := Lib.hid hb1
  clear hb1
  go_wp2_with (fail)
  refine (escEncode _ (by decide) plS plS_good w1).mono ?_
  rintro e w2 ⟨rfl, hb2⟩
  have HB2 : Hid (Below w.heap.size w w2) := Lib.hid (HB1.out.trans (hb2.mono HB1.out.size))
  clear hb2
  rw [show encD plS (⟨#[97, 124, 98, 92, 99]⟩ : ByteArray).data.toList = [97, 92, 70, 92, 98, 92, 69, 92, 99] from ex7a]
  go_wp2_with (fail)
  refine (escPlain w2).mono ?_
  rintro e w3 ⟨rfl, hb3⟩
  have HB3 : Hid (Below w.heap.size w w3) := Lib.hid (HB2.out.trans (hb3.mono HB2.out.size))
  clear hb3
  go_wp2_with (fail)
  refine (escDecode _ (by decide) plS plS_good w3).mono ?_
  rintro e w4 ⟨rfl, hb4⟩
  have HB4 : Hid (Below w.heap.size w w4) := Lib.hid (HB3.out.trans (hb4.mono HB3.out.size))
  clear hb4
  rw [show decD plS (⟨#[92, 88, 48, 68, 48, 65, 92]⟩ : ByteArray).data.toList = .ok [13, 10] from ex7b]
  simp only [decText, decPos, decErr]
  go_wp2_with (fail)
  refine (escPlain w4).mono ?_
  rintro e w5 ⟨rfl, hb5⟩
  have HB5 : Hid (Below w.heap.size w w5) := Lib.hid (HB4.out.trans (hb5.mono HB4.out.size))
  clear hb5
  go_wp2_with (fail)
  refine (escDecode _ (by decide) plS plS_good w5).mono ?_
  rintro e w6 ⟨rfl, hb6⟩
  have HB6 : Hid (Below w.heap.size w w6) := Lib.hid (HB5.out.trans (hb6.mono HB5.out.size))
  clear hb6
  rw [show decD plS (⟨#[97, 92, 81, 92]⟩ : ByteArray).data.toList = .error 1 from ex7c]
  simp only [decText, decPos, decErr]
  go_wp2_with (fail)
  go_ret
  exact ⟨rfl, HB6.out⟩
end Go.Proofs.Ytecmadodpkfnnaa
