/- Layer 6's answer: the signs of a message. -/
import Derived.Test.YtgffamdlnacamaaDoorRef06a
import Derived.Test.YtgffamdlnacamaaDoorRef06b
import Derived.Test.YtgffamdlnacamaaDoorRef06c
import Derived.Test.YtgffamdlnacamaaDoorRef06d
import Derived.Test.YtgffamdlnacamaaDoorRef06e
namespace Go.Proofs.YtgffamdlnacamaaDoor
open Go.RowKit

theorem refRead (A : Option Addr) (n c : Nat) (l : List UInt8) (w : World) (hB : Bs w A n c l) :
    Calls Tryd.prog 47 #[.slice A n c] w fun e w' => e = .returned (.tuple #[(readD l).1.v, .int .i64 (readD l).2]) ∧ Below w.heap.size w w' := by
  by_cases h9 : (n : Int) < 9
  · exact refRead_short A n c l w hB h9
  by_cases hm : l.take 3 = [77, 83, 72]
  · cases hgd : (Sgn.of l).good
    · exact refRead_bad A n c l w hB h9 hm hgd
    · by_cases h1 : l.getD 8 0 = l.getD 3 0
      · exact refRead_first A n c l w hB h9 hm hgd h1
      · by_cases h2 : l.getD 8 0 = 13
        · exact refRead_tail A n c l w hB h9 hm hgd h1 h2
        · exact refRead_other A n c l w hB h9 hm hgd h1 h2
  · exact refRead_head A n c l w hB h9 hm
end Go.Proofs.YtgffamdlnacamaaDoor
