/- Layer 13: the example. -/
import Derived.Test.YthblbmbefhlbjaaEntryGet
import Derived.Test.YthblbmbefhlbjaaBytesEqual
namespace Go.Proofs.Ythblbmbefhlbjaa
open Go.RowKit

theorem rec65 : record [65] = [0, 0, 0, 1, 222, 226, 183, 90, 65] := by decide +kernel
theorem rec65_get : getErr [0, 0, 0, 1, 222, 226, 183, 90, 65] = 0 ∧ getGet [0, 0, 0, 1, 222, 226, 183, 90, 65] = [65] ∧ getLen [0, 0, 0, 1, 222, 226, 183, 90, 65] = 9 := by decide +kernel
theorem ok1 : okLen 1 = true := by decide

end Go.Proofs.Ythblbmbefhlbjaa
