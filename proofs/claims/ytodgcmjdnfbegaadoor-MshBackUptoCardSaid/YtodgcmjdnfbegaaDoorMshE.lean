/- Layer 9: a head against itself. -/
import Derived.Test.YtodgcmjdnfbegaaDoorMsh1
import Derived.Test.YtodgcmjdnfbegaaDoorMsh6
namespace Go.Proofs.YtodgcmjdnfbegaaDoor
open Go.RowKit

theorem head_self (h : Hd) (w : World) : (binOp .eql TH h.v h.v).run Tryd.prog w = .ok (.bool true) w := by
  have hs : Tryd.prog.stoodInHeld 25 = false := by kernel_rfl
  have ht : Tryd.prog.underlying 25 = some (.struct (Tryd.prog.fieldsOf 25)) := by kernel_rfl
  have hd : ∀ W, (Op.equalIn 9999 25 h.d.v h.d.v).run Tryd.prog W = .ok true W := fun W => by
    rw [run_equalIn_agg (ht := ht) (hp := hs)]
    simp [Op.eqFields, Program.fieldsOf, Tryd.underlying25, part, go_sem]
  rw [run_eql_struct, run_equalIn_agg (ht := by kernel_rfl) (hp := by kernel_rfl)]
  simp [Op.eqFields, Program.fieldsOf, Tryd.underlying27, hd, part, go_sem]
theorem sgn_self (s : Sgn) (w : World) : (binOp .neq 25 s.v s.v).run Tryd.prog w = .ok (.bool false) w := by
  rw [run_neq_struct, run_equalIn_agg (ht := by kernel_rfl) (hp := by kernel_rfl)]
  simp [Op.eqFields, Program.fieldsOf, Tryd.underlying25, part, go_sem]
end Go.Proofs.YtodgcmjdnfbegaaDoor
