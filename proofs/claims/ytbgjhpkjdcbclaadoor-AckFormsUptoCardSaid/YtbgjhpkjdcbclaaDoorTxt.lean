/- Sums of texts, and their bytes, in one step each. -/
import Derived.Test.YtbgjhpkjdcbclaaDoorConv
import Derived.Test.YtbgjhpkjdcbclaaDoorRefCut
import Derived.Laws.Tables
namespace Go.Proofs.YtbgjhpkjdcbclaaDoor
open Go.RowKit

theorem addT (X Y : List UInt8) (h : X.length + Y.length ≤ 9223372036854775807) (W : World) : (binOp .add 9 (.string (txt X)) (.string (txt Y))).run Tryd.prog W = .ok (.string (txt (X ++ Y))) W := by
  rw [add_run _ _ (by simp only [txt_size]; omega) W, txt_app]
theorem wpList_addT {ops : Array Oper} {rest : List Oper} {dst : Option Tmp} {x y : Operand} {tb ty : TypeId} {pos : String} {af} {a : Act} {w : World} {Q : Exit → Act → World → Prop}
    (X Y Z : List UInt8) (hZ : Hid (Z = X ++ Y)) (hx : a.eval x = .string (txt X)) (hy : a.eval y = .string (txt Y)) (h : Z.length ≤ 9223372036854775807)
    (next : wpList Tryd.prog ops Q rest (a.put dst (str Z)) w) : wpList Tryd.prog ops Q ((⟨dst, .binOp .add 9 x y tb, ty, pos, af, none⟩ : Oper) :: rest) a w :=
  wpList_plain rfl fun K hK => by
    obtain rfl : Z = X ++ Y := hZ
    unfold Oper.wp execOp
    simp only [hx, hy]
    simp [eqGuard, addT X Y (by rw [List.length_append] at h; exact h) w, Result.andThen, Oper.upon]
    exact hK _ _ next
theorem wpList_convT {ops : Array Oper} {rest : List Oper} {dst : Option Tmp} {x : Operand} {ty : TypeId} {pos : String} {af} {a : Act} {w : World} {Q : Exit → Act → World → Prop}
    (l : List UInt8) (N g : Nat) (hx : a.eval x = .string (txt l)) (hN : l.length = N) (hl : N ≤ maxLen) (hg : w.heap.size = g)
    (next : ∀ cap W, Hid (Conv W g N cap g l) → Below w.heap.size w W → wpList Tryd.prog ops Q rest (a.put dst (.slice (some ⟨g, 0, none⟩) N cap)) W) : wpList Tryd.prog ops Q ((⟨dst, .convert 9 28 x, ty, pos, af, none⟩ : Oper) :: rest) a w := by
  subst hg
  obtain ⟨cap, W, hrun, hC, hb⟩ := conv_list (P := Tryd.prog) w 9 28 5 l N Tryd.underlying9 Tryd.underlying28 Tryd.underlying5 hN hl
  refine wpList_plain rfl fun K hK => ?_
  unfold Oper.wp execOp
  simp only [hx]
  simp [hrun, Result.andThen, Oper.upon]
  exact hK _ _ (next cap W (Lib.hid hC) hb)
/-- string(b) of bytes that lie somewhere -/
theorem wpList_strT {ops : Array Oper} {rest : List Oper} {dst : Option Tmp} {x : Operand} {ty : TypeId} {pos : String} {af} {a : Act} {w : World} {Q : Exit → Act → World → Prop}
    (A : Option Addr) (n c : Nat) (l : List UInt8) (hx : a.eval x = .slice A n c) (hB : Bs w A n c l)
    (next : wpList Tryd.prog ops Q rest (a.put dst (str l)) w) : wpList Tryd.prog ops Q ((⟨dst, .convert 28 9 x, ty, pos, af, none⟩ : Oper) :: rest) a w := by
  have hrun := hB.str (P := Tryd.prog) 28 5 9 Tryd.underlying28 Tryd.underlying5 Tryd.underlying9
  refine wpList_plain rfl fun K hK => ?_
  unfold Oper.wp execOp
  simp only [hx]
  simp [hrun, Result.andThen, Oper.upon]
  exact hK _ _ next
end Go.Proofs.YtbgjhpkjdcbclaaDoor
