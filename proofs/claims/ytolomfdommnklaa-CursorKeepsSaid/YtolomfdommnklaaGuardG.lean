/- Layer 3: a crash, lost and told; what Run defers. -/
import Derived.Test.YtolomfdommnklaaDk1
import Derived.Tactics
import Derived.Tactics2
import Derived.Defers
import Derived.Recover
import Derived.Laws.Pointers
namespace Go.Proofs.Ytolomfdommnklaa
open Go.RowKit

theorem assert_yesG (v : Value) (w : World) : (Instr.typeAssert (.iface 46 v) 20 46 true).run Try.prog w = .ok (.tuple #[v, .bool true]) w := by
  simp [Instr.typeAssert, go_sem, run_underlying Try.underlying46]

theorem assert_no (t : TypeId) (v : Value) (w : World) (ht : t ≠ 46) : (Instr.typeAssert (.iface t v) 20 46 true).run Try.prog w = .ok (.tuple #[crash 0, .bool false]) w := by
  simp [Instr.typeAssert, go_sem, run_underlying Try.underlying46, ht]

theorem assert_nil (w : World) : (Instr.typeAssert .nilIface 20 46 true).run Try.prog w = .ok (.tuple #[crash 0, .bool false]) w := by
  simp [Instr.typeAssert, go_sem, run_underlying Try.underlying46]

end Go.Proofs.Ytolomfdommnklaa
