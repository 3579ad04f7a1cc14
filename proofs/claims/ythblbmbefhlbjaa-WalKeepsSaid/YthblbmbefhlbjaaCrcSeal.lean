/- Layer 1: Seal and Open, walked. -/
import Derived.Test.YthblbmbefhlbjaaCrcAlive
import Derived.RegionTactic
import Derived.BigRegion
import Derived.Deep.RegionWith
import Derived.Deep.RegionLaw
namespace Go.Proofs.Ythblbmbefhlbjaa
open Go.RowKit

/-- a number's bytes, the highest first -/
def be4 (x : Nat) : List UInt8 := [UInt8.ofNat (x / 16777216), UInt8.ofNat (x / 65536), UInt8.ofNat (x / 256), UInt8.ofNat x]
theorem be4_length (x : Nat) : (be4 x).length = 4 := rfl
theorem be4_cells (x : Nat) (hx : x < 4294967296) : #[Value.int .u8 ((x : Int) / 16777216), .int .u8 ((x : Int) / 65536 % 256), .int .u8 ((x : Int) / 256 % 256), .int .u8 ((x : Int) % 256)] = (u8s (be4 x)).toArray := by
  simp [be4, u8s]
  omega

theorem four {l : List UInt8} (h : l.length = 4) : ∃ p q r s, l = [p, q, r, s] := by
  match l, h with
  | [p, q, r, s], _ => exact ⟨p, q, r, s, rfl⟩

end Go.Proofs.Ythblbmbefhlbjaa
