/- Layer 9: what it stands on. -/
import Derived.Test.YtgffamdlnacamaaDoorSegQ
import Derived.Test.YtgffamdlnacamaaDoorDelim4
import Derived.Test.YtgffamdlnacamaaDoorRef06f
namespace Go.Proofs.YtgffamdlnacamaaDoor
open Go.RowKit
end Go.Proofs.YtgffamdlnacamaaDoor
