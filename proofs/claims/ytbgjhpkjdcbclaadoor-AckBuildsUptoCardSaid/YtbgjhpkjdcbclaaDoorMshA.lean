/- Layer 9: what it stands on. -/
import Derived.Test.YtbgjhpkjdcbclaaDoorSegQ
import Derived.Test.YtbgjhpkjdcbclaaDoorDelim4
import Derived.Test.YtbgjhpkjdcbclaaDoorRef06f
namespace Go.Proofs.YtbgjhpkjdcbclaaDoor
open Go.RowKit
end Go.Proofs.YtbgjhpkjdcbclaaDoor
