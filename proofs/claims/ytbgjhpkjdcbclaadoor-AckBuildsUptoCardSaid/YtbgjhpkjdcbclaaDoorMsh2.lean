/- Layer 9: what is wrong with a head, walked. -/
import Derived.Test.YtbgjhpkjdcbclaaDoorMsh1
namespace Go.Proofs.YtbgjhpkjdcbclaaDoor
open Go.RowKit

def procD (s : ByteArray) : Bool := s.toList == [80] || s.toList == [68] || s.toList == [84]
/-- what is wrong with a head -/
def checkD (h : Hd) : Int := if h.a6.toList.isEmpty || h.a7.toList.isEmpty || decide (50 < h.a7.size) then 14 else if !knownD (txt (firstD h.a9 h.d)) then 12 else if !procD (txt (firstD h.a8 h.d)) then 13 else 0

end Go.Proofs.YtbgjhpkjdcbclaaDoor
