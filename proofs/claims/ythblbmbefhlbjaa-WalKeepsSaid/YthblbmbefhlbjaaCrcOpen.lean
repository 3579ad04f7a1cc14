/- Layer 1: Open, walked. -/
import Derived.Test.YthblbmbefhlbjaaCrcSeal
import Derived.Test.YthblbmbefhlbjaaBytesEqual
namespace Go.Proofs.Ythblbmbefhlbjaa
open Go.RowKit

/-- what Open answers -/
def openOk (l : List UInt8) : Bool := decide (4 ≤ l.length) && (be4 (Crc.sum 0 (l.take (l.length - 4))) == l.drop (l.length - 4))
def openGet (l : List UInt8) : List UInt8 := if openOk l then l.take (l.length - 4) else []
/-- bytes and a bool, what was there left -/
def RetBB (b : Bool) (l : List UInt8) (w : World) (e : Ending) (w' : World) : Prop :=
  ∃ A c, e = .returned (.tuple #[.slice A l.length c, .bool b]) ∧ Bs w' A l.length c l ∧ Below w.heap.size w w'

end Go.Proofs.Ythblbmbefhlbjaa
