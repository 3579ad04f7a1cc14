/- Layer 5: the document's example. -/
import Derived.Test.YtjeibckjockmeaaDoorDfRd
namespace Go.Proofs.YtjeibckjockmeaaDoor
open Go.RowKit

theorem feed_ex : feedD 3 newS [65, 11, 66, 28, 13, 11, 67, 11, 68] = (⟨.inn, [68], 1, 0, 1⟩, [[66]]) := by rfl
theorem new_up (most : Nat) : St.Up most 0 newS := ⟨Nat.le_refl _, Nat.le_refl _, Nat.le_refl _, Nat.zero_le _⟩
set_option maxHeartbeats 1000000 in
set_option maxRecDepth 100000 in
theorem alive05 (w : World) : Calls Tryd.prog 6 #[] w (True_ w) := by
  go_enter Tryd.func6, Tryd.ntmps6
  go_wp2_with (fail)
  refine (dNew 3 (by omega) (by omega) w).mono ?_
  rintro e w1 ⟨D, rfl, hd, hb⟩
  have HD := Lib.hid hd
  have HB := Lib.hid hb
  clear hd hb
  go_wp2_with (fail)
  have hb2 : Below w1.heap.size w1 (w1.alloc (.cells #[.int .u8 65, .int .u8 11, .int .u8 66, .int .u8 28, .int .u8 13, .int .u8 11, .int .u8 67, .int .u8 11, .int .u8 68] 5)) := (Below.refl _ w1).alloc (Nat.le_refl _) _
  refine (dFeed w.heap.size D none 3 0 newS _ (HD.out.below hb2) (Nat.le_trans HB.out.size hb2.size) (by omega) (new_up 3) (some ⟨w1.heap.size, 0, none⟩) 9 9 [65, 11, 66, 28, 13, 11, 67, 11, 68] (Bs.lit w1 [65, 11, 66, 28, 13, 11, 67, 11, 68] 5 _ w1.heap.size rfl rfl rfl (by simp [maxLen])) (fun _ b hb hs => by
    injection hb with hb
    subst hb
    rcases hs with hs | hs
    · have := HD.out.lt; simp at hs; omega
    · cases hs) (by omega)).mono ?_
  rintro e w2 ⟨v, O2, rfl, hr, hd2, hm⟩
  rw [feed_ex] at hr hd2
  simp only at hr hd2
  obtain ⟨A3, c3, rfl, hrd⟩ := hr.rd (by intro x hx; simp at hx; subst hx; simp [maxLen])
  obtain ⟨b, o, Ai, ci, rfl, _, hc, hB⟩ := hrd.read (i := 0) (by simp)
  have hcv := hB.str (P := Tryd.prog) 23 5 9 Tryd.underlying23 Tryd.underlying5 Tryd.underlying9
  have HD2 := Lib.hid hd2
  have HB2 : Hid (Below w.heap.size w w2) := Lib.hid ((HB.out.trans (hb2.mono HB.out.size)).trans (hm.low (HD.out.below hb2) (Nat.le_trans HB.out.size hb2.size)))
  simp only [List.getD_cons_zero, List.length_cons, List.length_nil, Nat.zero_add, Nat.add_zero] at hc hcv ⊢
  clear hr hrd hB hd2 hm hb2 HD HB
  go_wp2_with (fail)
  refine (dJunk w.heap.size D O2 3 _ w2 HD2.out).mono ?_
  rintro e w' ⟨rfl, rfl⟩
  go_wp2_with (fail)
  refine (dBroken w.heap.size D O2 3 _ w2 HD2.out).mono ?_
  rintro e w' ⟨rfl, rfl⟩
  go_wp2_with (fail)
  refine (dHeld w.heap.size D O2 3 _ w2 HD2.out (by simp)).mono ?_
  rintro e w' ⟨rfl, rfl⟩
  rw [show heldD ⟨.inn, [68], 1, 0, 1⟩ = 2 from rfl]
  go_wp2_with (fail)
  refine (dOver w.heap.size D O2 3 _ w2 HD2.out).mono ?_
  rintro e w' ⟨rfl, rfl⟩
  go_wp2_with (fail)
  go_ret
  exact ⟨rfl, HB2.out⟩
end Go.Proofs.YtjeibckjockmeaaDoor
