/- Layer 9: what it stands on. -/
import Derived.Test.YtodgcmjdnfbegaaDoorSegQ
import Derived.Test.YtodgcmjdnfbegaaDoorDelim4
import Derived.Test.YtodgcmjdnfbegaaDoorRef06f
namespace Go.Proofs.YtodgcmjdnfbegaaDoor
open Go.RowKit
end Go.Proofs.YtodgcmjdnfbegaaDoor
