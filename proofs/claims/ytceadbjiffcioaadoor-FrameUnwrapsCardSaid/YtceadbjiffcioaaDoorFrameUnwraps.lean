/- The law FrameUnwraps, walked. -/
import Derived.Test.YtceadbjiffcioaaDoorFrame5
namespace Go.Proofs.YtceadbjiffcioaaDoor
open Go.RowKit

set_option maxRecDepth 100000 in
set_option maxHeartbeats 1000000 in
theorem frameUnwraps_walk (A : Option Addr) (n c : Nat) (l : List UInt8) (w : World) (hS : Signs w) (hB : Bs w A n c l) (_hR : c ≤ 140737488351232) :
    Calls Tryd.prog 4 #[.slice A n c] w (Alive w) := by
  have hmax := hB.nmax
  have hle := hB.le
  have HS := Lib.hid hS
  have HB := Lib.hid hB
  clear hS hB
  by_cases hn : 3000 < n
  · go_enter Tryd.func4, Tryd.ntmps4
    go_wp2_with (fail)
    refine (alive_any w HS.out).mono ?_
    rintro e w1 ⟨rfl, hb1⟩
    go_wp2
    go_ret
    exact ⟨rfl, hb1⟩
  · go_enter Tryd.func4, Tryd.ntmps4
    go_wp2_with (fail)
    refine (frameUnwrap A n c l w HS.out HB.out (by omega)).mono ?_
    have HR := Lib.hid (fun w1 (h : Below w.heap.size w w1) => refUnwrap A n c l w1 (HB.out.below h))
    unfold RefUnw at HR
    generalize unwrapGet l = x at *
    generalize unwrapErr l = r at *
    rintro e w1 ⟨A1, c1, rfl, hX, hb1⟩
    go_wp2_with (fail)
    refine (HR.out w1 hb1).mono ?_
    rintro e w2 ⟨A2, c2, rfl, hY, rfl⟩
    go_wp2_with (fail)
    refine (alive_any w1 (HS.out.below hb1)).mono ?_
    rintro e w2 ⟨rfl, hb2⟩
    have cvx := (hX.below hb2).str'
    have cvy := (hY.below hb2).str'
    go_wp2_with (fail)
    go_ret
    exact ⟨rfl, hb1.trans (hb2.mono hb1.size)⟩
end Go.Proofs.YtceadbjiffcioaaDoor
