/- Heads compared with themselves, in one step. -/
import Derived.Test.YtgffamdlnacamaaDoorHdRow
import Derived.Test.YtgffamdlnacamaaDoorMshEG
import Derived.Laws.StructEq
namespace Go.Proofs.YtgffamdlnacamaaDoor
open Go.RowKit

theorem eqGuardH (x y : Operand) (a b : Hd) (w : World) : (eqGuard .eql TH x y a.v b.v).run Tryd.prog w = .ok () w := run_eqGuard_agg w .eql TH x y _ _ (by kernel_rfl)
theorem wpList_eqH {ops : Array Oper} {rest : List Oper} {dst : Option Tmp} {x y : Operand} {tb ty : TypeId} {pos : String} {af} {gd} {a : Act} {w : World} {Q : Exit → Act → World → Prop}
    (h : Hd) (hw : Region.wanted (⟨dst, .binOp .eql TH x y tb, ty, pos, af, gd⟩ : Oper) (yielded ops a.tmps) = true) (hx : a.eval x = h.v) (hy : a.eval y = h.v)
    (next : wpList Tryd.prog ops Q rest (a.put dst (.bool true)) w) : wpList Tryd.prog ops Q ((⟨dst, .binOp .eql TH x y tb, ty, pos, af, gd⟩ : Oper) :: rest) a w :=
  wpList_step fun K hK => by
    rw [if_pos hw]
    unfold Oper.wp execOp
    simp only [hx, hy, Sem.run_bind, eqGuardH, Result.andThen_ok, head_self]
    exact hK _ _ next
theorem wpQuiet_eqH {ops : Array Oper} {rest : List Oper} {dst : Option Tmp} {x y : Operand} {tb ty : TypeId} {pos : String} {af} {gd} {a : Act} {C : World → Prop} {Q : Act → Prop}
    (h : Hd) (hw : Region.wanted (⟨dst, .binOp .eql TH x y tb, ty, pos, af, gd⟩ : Oper) (yielded ops a.tmps) = true) (hx : a.eval x = h.v) (hy : a.eval y = h.v)
    (next : wpQuiet Tryd.prog ops C Q rest (a.put dst (.bool true))) : wpQuiet Tryd.prog ops C Q ((⟨dst, .binOp .eql TH x y tb, ty, pos, af, gd⟩ : Oper) :: rest) a := by
  unfold wpQuiet
  rw [if_pos hw]
  refine ⟨.bool true, fun W hW => ?_, next⟩
  unfold Oper.quietAt execOp
  simp only [hx, hy, Sem.run_bind, eqGuardH, Result.andThen_ok, head_self]
  exact ⟨rfl, rfl⟩
end Go.Proofs.YtgffamdlnacamaaDoor
