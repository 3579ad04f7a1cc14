/- Layer 13: the example. -/
import Derived.Test.YtamjcihhilmppaaEntryGet
import Derived.Test.YtamjcihhilmppaaBytesEqual
namespace Go.Proofs.Ytamjcihhilmppaa
open Go.RowKit

theorem rec65 : record [65] = [0, 0, 0, 1, 222, 226, 183, 90, 65] := by decide +kernel
theorem rec65_get : getErr [0, 0, 0, 1, 222, 226, 183, 90, 65] = 0 ∧ getGet [0, 0, 0, 1, 222, 226, 183, 90, 65] = [65] ∧ getLen [0, 0, 0, 1, 222, 226, 183, 90, 65] = 9 := by decide +kernel
theorem ok1 : okLen 1 = true := by decide

set_option maxRecDepth 100000 in
set_option maxHeartbeats 1000000 in
theorem entryAlive (w : World) : Calls Try.prog 20 #[] w (True_ w) := by
  go_enter Try.func20, Try.ntmps20
  go_wp2_with (fail)
  refine (entryPut_yes _ 1 1 [65] _ (Bs.lit w [65] 5 _ _ rfl rfl rfl (by simp [maxLen])) ok1).mono ?_
  rw [rec65]
  rintro e w1 ⟨A1, c1, rfl, hB1, hb1⟩
  simp only [List.length_cons, List.length_nil] at hB1 ⊢
  have B1 := Lib.hid (((Below.refl _ w).alloc (Nat.le_refl _) (.cells #[.int .u8 65] 5)).trans (hb1.mono (by simp)))
  have X1 := Lib.hid hB1
  clear hb1 hB1
  have hz1 := B1.out.size
  go_wp2_with (fail)
  refine (entryGet _ _ _ _ w1 X1.out (by omega)).mono ?_
  rw [rec65_get.1, rec65_get.2.1, rec65_get.2.2]
  rintro e w2 ⟨A2, c2, rfl, hB2, hb2⟩
  have B2 := Lib.hid (B1.out.trans (hb2.mono hz1))
  have X2 := X1.out.below hb2
  have cv1 := (X2.take (j := 4) (by omega)).str1
  have cv2 := hB2.str1
  obtain ⟨b, o, rfl, hb, hc⟩ := X2.at_ (by omega)
  have hc8 := hc 8 65 rfl
  have hcc := X2.le
  have e1 : (4 : Int) ≤ (c1 : Int) := by omega
  clear hc X2 hB2 hb2
  simp only [List.take_succ_cons, List.take_zero, List.length_cons, List.length_nil] at cv1 cv2 ⊢
  go_wp2
  go_ret
  exact ⟨rfl, B2.out⟩
end Go.Proofs.Ytamjcihhilmppaa
