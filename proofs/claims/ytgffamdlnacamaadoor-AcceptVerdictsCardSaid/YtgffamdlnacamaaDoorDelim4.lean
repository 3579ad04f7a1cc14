/- Layer 6: the signs of a message. -/
import Derived.Test.YtgffamdlnacamaaDoorDelim3b
import Derived.Test.YtgffamdlnacamaaDoorDelim3c
import Derived.Test.YtgffamdlnacamaaDoorDelim3d
import Derived.Test.YtgffamdlnacamaaDoorDelim3e
namespace Go.Proofs.YtgffamdlnacamaaDoor
open Go.RowKit

theorem delimRead (A : Option Addr) (n c : Nat) (l : List UInt8) (w : World) (hB : Bs w A n c l) :
    Calls Tryd.prog 44 #[.slice A n c] w fun e w' => e = .returned (.tuple #[(readD l).1.v, .int .i64 (readD l).2]) ∧ Below w.heap.size w w' := by
  by_cases h9 : (n : Int) < 9
  · exact delimRead_short A n c l w hB h9
  by_cases hm : l.take 3 = [77, 83, 72]
  · cases hgd : (Sgn.of l).good
    · exact delimRead_bad A n c l w hB h9 hm hgd
    · by_cases h1 : l.getD 8 0 = l.getD 3 0
      · exact delimRead_first A n c l w hB h9 hm hgd h1
      · by_cases h2 : l.getD 8 0 = 13
        · exact delimRead_tail A n c l w hB h9 hm hgd h1 h2
        · exact delimRead_other A n c l w hB h9 hm hgd h1 h2
  · exact delimRead_head A n c l w hB h9 hm
end Go.Proofs.YtgffamdlnacamaaDoor
