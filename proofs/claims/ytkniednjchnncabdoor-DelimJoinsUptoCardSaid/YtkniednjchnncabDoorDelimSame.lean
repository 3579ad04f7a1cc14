/- Layer 6: same, of like texts. -/
import Derived.Test.YtkniednjchnncabDoorStrs
import Derived.Test.YtkniednjchnncabDoorDelimAlive
import Derived.LoopTactic
namespace Go.Proofs.YtkniednjchnncabDoor
open Go.RowKit

set_option maxHeartbeats 1000000 in
set_option maxRecDepth 100000 in
theorem same06 (A A' : Option Addr) (n c c' : Nat) (T : List (List UInt8)) (w : World) (hS : Ss w A n c T) (hS' : Ss w A' n c' T) :
    Calls Tryd.prog 7 #[.slice A n c, .slice A' n c'] w fun e w' => e = .returned (.bool true) ∧ Below w.heap.size w w' := by
  have hmax := hS.nmax
  have HS := Lib.hid hS
  have HS' := Lib.hid hS'
  clear hS hS'
  go_enter Tryd.func7, Tryd.ntmps7
  go_wp2_with (fail)
  go_loopw [13, 5] (fun i _ wr => ∃ k : Nat, k ≤ n ∧ i = .int .i64 k ∧ Below w.heap.size w wr) (fun i _ _ => n - (intOf i).toNat)
  case atStart => exact ⟨0, Nat.zero_le _, rfl, Below.refl _ _⟩
  case round =>
    obtain ⟨k, hk, rfl, hb⟩ := hrel
    have HB := Lib.hid hb
    clear hb
    by_cases hlt : k < n
    · obtain ⟨b, o, rfl, _, hc⟩ := (HS.out.below HB.out).read hlt
      obtain ⟨b', o', rfl, _, hc'⟩ := (HS'.out.below HB.out).read hlt
      have e1 : (k : Int) < (n : Int) := by omega
      have e0 : (0 : Int) ≤ (k : Int) := by omega
      generalize T.getD k [] = y at *
      have HLT := Lib.hid hlt
      clear hlt
      go_wp2_with (fail)
      go_quiet (fail)
      go_wp2_with (fail)
      exact ⟨⟨k + 1, HLT.out, by go_num, drawN_below HB.out _⟩, by have := HLT.out; simp [intOf]; omega⟩
    · obtain rfl : k = n := by omega
      go_wp2_with (fail)
      go_ret
      exact ⟨rfl, HB.out⟩
end Go.Proofs.YtkniednjchnncabDoor
