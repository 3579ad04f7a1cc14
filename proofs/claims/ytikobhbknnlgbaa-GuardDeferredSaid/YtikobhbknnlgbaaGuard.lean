/- Layer 3: a crash, lost and told; what Run defers. -/
import Derived.Test.YtikobhbknnlgbaaBase
import Derived.Tactics
import Derived.Tactics2
import Derived.Defers
import Derived.Recover
import Derived.Laws.Pointers
namespace Go.Proofs.Ytikobhbknnlgbaa
open Go.RowKit

abbrev crash (op : Int) : Value := .agg #[.int .i64 op]
abbrev crashI (op : Int) : Value := .iface 24 (crash op)

theorem assert_yes (v : Value) (w : World) : (Instr.typeAssert (.iface 24 v) 20 24 true).run Try.prog w = .ok (.tuple #[v, .bool true]) w := by
  simp [Instr.typeAssert, go_sem, run_underlying Try.underlying24]

theorem assert_no (t : TypeId) (v : Value) (w : World) (ht : t ≠ 24) : (Instr.typeAssert (.iface t v) 20 24 true).run Try.prog w = .ok (.tuple #[crash 0, .bool false]) w := by
  simp [Instr.typeAssert, go_sem, run_underlying Try.underlying24, ht]

theorem assert_nil (w : World) : (Instr.typeAssert .nilIface 20 24 true).run Try.prog w = .ok (.tuple #[crash 0, .bool false]) w := by
  simp [Instr.typeAssert, go_sem, run_underlying Try.underlying24]

set_option maxRecDepth 100000 in
theorem guardLose (op : Int) (w : World) : Calls Try.prog 18 #[.int .i64 op] w fun e w' => e = .panicked [{ v := crashI op, recovered := false }] ∧ w = w' := by
  go_enter Try.func18, Try.ntmps18
  go_wp2
  exact ⟨rfl, rfl, rfl⟩
end Go.Proofs.Ytikobhbknnlgbaa
