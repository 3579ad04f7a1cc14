/- Layer 12: the laws' ticks. -/
import Derived.Test.YtikobhbknnlgbaaDelay3
namespace Go.Proofs.Ytikobhbknnlgbaa
open Go.RowKit

def ticksOf (n : Int) : Int := (IntKind.u64.wrap n) % 1099511627777
theorem ticksOf_range (n : Int) : 0 ≤ ticksOf n ∧ ticksOf n ≤ 1099511627776 := by
  unfold ticksOf
  omega
end Go.Proofs.Ytikobhbknnlgbaa
