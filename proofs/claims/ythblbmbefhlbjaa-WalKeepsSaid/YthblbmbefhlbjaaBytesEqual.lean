/- bytes.Equal, walked. -/
import Derived.Test.YthblbmbefhlbjaaLater
namespace Go.Proofs.Ythblbmbefhlbjaa
open Go.RowKit

theorem Bs.str1 {w : World} {A : Option Addr} {n c : Nat} {l : List UInt8} (h : Bs w A n c l) : (convert 27 9 (.slice A n c)).run Try.prog w = .ok (.string (txt l)) w :=
  h.str _ _ _ Try.underlying27 Try.underlying5 Try.underlying9
theorem txt_toList (l : List UInt8) : (txt l).data.toList = l := rfl

end Go.Proofs.Ythblbmbefhlbjaa
