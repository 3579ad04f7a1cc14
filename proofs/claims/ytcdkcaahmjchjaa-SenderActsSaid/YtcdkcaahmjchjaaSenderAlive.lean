/- Layer 16: the example. -/
import Derived.Test.YtcdkcaahmjchjaaSenderNew
import Derived.Test.YtcdkcaahmjchjaaLater
namespace Go.Proofs.Ytcdkcaahmjchjaa
open Go.RowKit

theorem alive_delay : nextD 3 20 4611686018427387904 0 = 3 := by decide +kernel
abbrev aS (known tries kind left pos : Int) : Snd := ⟨0, 3, 20, 5, 4611686018427387904, pos, known, tries, kind, left⟩
theorem alive_tick1 : tickS (aS 2 0 1 5 0) 6 = aS 2 1 2 2 0 := by
  simp [tickS, failS, tickR, restS, alive_delay]
  rw [if_neg (by decide)]
  rfl
theorem alive_tick2 : tickS (aS 2 1 2 2 0) 2 = aS 2 1 0 0 0 := by
  simp [tickS, tickR, restS]
theorem alive_ok (a b c d e : Int) (h : 0 ≤ b) (h2 : b ≤ 100) : (aS a b c d e).Ok := by
  simp [Snd.Ok]
  omega
theorem grown_to_below {w0 w w' : World} {g : Nat} (h0 : Below w0.heap.size w0 w) (hg : w0.heap.size ≤ g) (h : w.grownBy w' (some g)) : Below w0.heap.size w0 w' :=
  h0.trans ⟨h.os, h.tape, h.output, h.size, fun k hk => h.block k (by have := h0.size; omega) (by simp; omega)⟩

set_option maxRecDepth 100000 in
set_option maxHeartbeats 2000000 in
theorem senderAlive (w : World) : Calls Try.prog 17 #[] w (True_ w) := by
  go_enter Try.func17, Try.ntmps17
  go_wp2_with (fail)
  refine (senderNew 0 3 20 5 4611686018427387904 0 w (by omega) (by omega) (by omega) (by omega) (by omega) (by omega) (by omega) (by omega)).mono ?_
  rintro e w1 ⟨g, rfl, hs1, hg1, hb1⟩
  have H1 := Lib.hid hs1
  have B1 := Lib.hid hb1
  have HG := Lib.hid hg1
  clear hs1 hb1 hg1
  go_wp2_with (fail)
  refine (senderOffer w1 g _ 2 H1.out).mono ?_
  rintro e w2 ⟨rfl, hs2, hg2⟩
  have H2 : Hid (IsSnd w2 g (aS 2 0 0 0 0)) := Lib.hid hs2
  have B2 := Lib.hid (grown_to_below B1.out HG.out hg2)
  clear hs2 hg2
  go_wp2_with (fail)
  refine (senderPoll_yes w2 g _ H2.out rfl rfl (by simp)).mono ?_
  rintro e w3 ⟨rfl, hs3, hg3⟩
  have H3 : Hid (IsSnd w3 g (aS 2 0 1 5 0)) := Lib.hid hs3
  have B3 := Lib.hid (grown_to_below B2.out HG.out hg3)
  clear hs3 hg3
  go_wp2_with (fail)
  refine (senderTick w3 g _ 6 H3.out (by omega) (by omega) (by simp [Snd.Left_]) (alive_ok _ _ _ _ _ (by omega) (by omega))).mono ?_
  rw [alive_tick1]
  rintro e w4 ⟨rfl, hs4, hg4⟩
  have H4 := Lib.hid hs4
  have B4 := Lib.hid (grown_to_below B3.out HG.out hg4)
  clear hs4 hg4
  go_wp2_with (fail)
  refine (senderLeft w4 g _ H4.out).mono ?_
  rintro e w' ⟨rfl, rfl⟩
  go_wp2_with (fail)
  refine (senderTick w4 g _ 2 H4.out (by omega) (by omega) (by simp [Snd.Left_]) (alive_ok _ _ _ _ _ (by omega) (by omega))).mono ?_
  rw [alive_tick2]
  rintro e w5 ⟨rfl, hs5, hg5⟩
  have H5 := Lib.hid hs5
  have B5 := Lib.hid (grown_to_below B4.out HG.out hg5)
  clear hs5 hg5
  go_wp2_with (fail)
  refine (senderPoll_yes w5 g _ H5.out rfl rfl (by simp)).mono ?_
  rintro e w6 ⟨rfl, hs6, hg6⟩
  have H6 : Hid (IsSnd w6 g (aS 2 1 1 5 0)) := Lib.hid hs6
  have B6 := Lib.hid (grown_to_below B5.out HG.out hg6)
  clear hs6 hg6
  go_wp2_with (fail)
  refine (senderTries w6 g _ H6.out).mono ?_
  rintro e w' ⟨rfl, rfl⟩
  go_wp2_with (fail)
  refine (senderAnswer_yes w6 g _ H6.out (by simp)).mono ?_
  rintro e w7 ⟨rfl, hs7, hg7⟩
  have H7 : Hid (IsSnd w7 g (aS 2 0 0 0 1)) := Lib.hid hs7
  have B7 := Lib.hid (grown_to_below B6.out HG.out hg7)
  clear hs7 hg7
  go_wp2_with (fail)
  refine (senderAt w7 g _ H7.out).mono ?_
  rintro e w' ⟨rfl, rfl⟩
  go_wp2_with (fail)
  refine (senderFlying w7 g _ H7.out).mono ?_
  rintro e w' ⟨rfl, rfl⟩
  go_wp2
  go_ret
  exact ⟨rfl, B7.out⟩
end Go.Proofs.Ytcdkcaahmjchjaa
