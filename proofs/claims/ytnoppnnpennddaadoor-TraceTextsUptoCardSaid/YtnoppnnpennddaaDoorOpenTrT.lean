/- Opening a row of steps and a text, with their bulk. -/
import Derived.Test.YtnoppnnpennddaaDoorOpenTrS
namespace Go.Proofs.YtnoppnnpennddaaDoor
theorem bulk_string {H : Type} (l : List UInt8) : Rows.uptoBulk (.lit (.string l) : DataW H) = l.length + 1 := by simp [Rows.uptoBulk]
end Go.Proofs.YtnoppnnpennddaaDoor
