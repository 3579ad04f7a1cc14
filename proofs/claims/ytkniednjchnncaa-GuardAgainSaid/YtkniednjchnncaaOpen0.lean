/- Arguments that are integers, bools, texts: nothing beside the library's own. -/
import Derived.ProofKit
import Derived.OpenShut
import Derived.Test.YtkniednjchnncaaBase
import Derived.ShutString
import Derived.ChangeOld
import Derived.SizedLaws
import Derived.Deep.DeepHandedRow
namespace Go.Proofs.Ytkniednjchnncaa
open Go.RowKit Go.ChangeShapes Go.WideShapes

theorem own : ownKnob Try.prog.godebug = none := by kernel_rfl
theorem laidOut : laidOutB Try.prog = true := by kernel_rfl
end Go.Proofs.Ytkniednjchnncaa
