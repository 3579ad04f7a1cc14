/- Layer 8: the document's examples, walked. -/
import Derived.Test.YtodgcmjdnfbegaaDoorSeg5
import Derived.Test.YtodgcmjdnfbegaaDoorLater
namespace Go.Proofs.YtodgcmjdnfbegaaDoor
open Go.RowKit

/-- the plain signs -/
def plainS : Sgn := ⟨124, 94, 126, 92, 38⟩

end Go.Proofs.YtodgcmjdnfbegaaDoor
