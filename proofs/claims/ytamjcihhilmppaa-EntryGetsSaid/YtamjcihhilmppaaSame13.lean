/- Layer 13: are they the same rows of bytes? -/
import Derived.Test.YtamjcihhilmppaaRowsG
namespace Go.Proofs.Ytamjcihhilmppaa
open Go.RowKit

set_option maxHeartbeats 1000000 in
set_option maxRecDepth 100000 in
theorem same13 (A A' : Option Addr) (n c c' : Nat) (L : List (List UInt8)) (w : World) (hS : Rd w A n c L) (hS' : Rd w A' n c' L) :
    Calls Try.prog 25 #[.slice A n c, .slice A' n c'] w fun e w' => e = .returned (.bool true) ∧ Below w.heap.size w w' := by
  have hmax := hS.nmax
  have HS := Lib.hid hS
  have HS' := Lib.hid hS'
  clear hS hS'
  go_enter Try.func25, Try.ntmps25
  go_wp2_with (fail)
  go_loopw [13, 5] (fun i _ wr => ∃ k : Nat, k ≤ n ∧ i = .int .i64 k ∧ Below w.heap.size w wr) (fun i _ _ => n - (intOf i).toNat)
  case atStart => exact ⟨0, Nat.zero_le _, rfl, Below.refl _ _⟩
  case round =>
    obtain ⟨k, hk, rfl, hb⟩ := hrel
    have HB := Lib.hid hb
    clear hb
    by_cases hlt : k < n
    · obtain ⟨b, o, Ai, ci, rfl, _, hc, hB⟩ := (HS.out.below HB.out).read hlt
      obtain ⟨b', o', Ai', ci', rfl, _, hc', hB'⟩ := (HS'.out.below HB.out).read hlt
      have e1 : (k : Int) < (n : Int) := by omega
      have e0 : (0 : Int) ≤ (k : Int) := by omega
      generalize L.getD k [] = y at *
      have hcv := fun q => (hB.drewN q).str (P := Try.prog) 22 5 9 Try.underlying22 Try.underlying5 Try.underlying9
      have hcv' := fun q => (hB'.drewN q).str (P := Try.prog) 22 5 9 Try.underlying22 Try.underlying5 Try.underlying9
      have HLT := Lib.hid hlt
      clear hlt hB hB'
      go_wp2_with (fail)
      go_quiet (fail)
      go_wp2_with (fail)
      exact ⟨⟨k + 1, HLT.out, by go_num, drawN_below HB.out _⟩, by have := HLT.out; simp [intOf]; omega⟩
    · obtain rfl : k = n := by omega
      go_wp2_with (fail)
      go_ret
      exact ⟨rfl, HB.out⟩
end Go.Proofs.Ytamjcihhilmppaa
