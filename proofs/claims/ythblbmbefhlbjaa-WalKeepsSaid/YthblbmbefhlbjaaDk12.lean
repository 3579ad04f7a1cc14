/- Layer 2: Rename, walked. -/
import Derived.Test.YthblbmbefhlbjaaDk11
namespace Go.Proofs.Ythblbmbefhlbjaa
open Go.RowKit Go.MapKept

section
variable {w w' : World} {B D M : Nat} {d d1 : Dk} {F : List Ent}
end
end Go.Proofs.Ythblbmbefhlbjaa
