/- Sums of texts, and their bytes, in one step each. -/
import Derived.Test.YtodgcmjdnfbegaaDoorConv
import Derived.Test.YtodgcmjdnfbegaaDoorRefCut
import Derived.Laws.Tables
namespace Go.Proofs.YtodgcmjdnfbegaaDoor
open Go.RowKit

theorem addT (X Y : List UInt8) (h : X.length + Y.length ≤ 9223372036854775807) (W : World) : (binOp .add 9 (.string (txt X)) (.string (txt Y))).run Tryd.prog W = .ok (.string (txt (X ++ Y))) W := by
  rw [add_run _ _ (by simp only [txt_size]; omega) W, txt_app]
theorem wpList_addT {ops : Array Oper} {rest : List Oper} {dst : Option Tmp} {x y : Operand} {tb ty : TypeId} {pos : String} {af} {a : Act} {w : World} {Q : Exit → Act → World → Prop}
    (X Y Z : List UInt8) (hZ : Hid (Z = X ++ Y)) (hx : a.eval x = .string (txt X)) (hy : a.eval y = .string (txt Y)) (h : Z.length ≤ 9223372036854775807)
    (next : wpList Tryd.prog ops Q rest (a.put dst (str Z)) w) : wpList Tryd.prog ops Q ((⟨dst, .binOp .add 9 x y tb, ty, pos, af, none⟩ : Oper) :: rest) a w :=
  wpList_plain rfl fun K hK => by
    obtain rfl : Z = X ++ Y := hZ
    unfold Oper.wp execOp
    simp only [hx, hy]
    simp [eqGuard, addT X Y (by rw [List.length_append] at h; exact h) w, Result.andThen, Oper.upon]
    exact hK _ _ next
theorem wpList_convT {ops : Array Oper} {rest : List Oper} {dst : Option Tmp} {x : Operand} {ty : TypeId} {pos : String} {af} {a : Act} {w : World} {Q : Exit → Act → World → Prop}
    (l : List UInt8) (N g : Nat) (hx : a.eval x = .string (txt l)) (hN : l.length = N) (hl : N ≤ maxLen) (hg : w.heap.size = g)
    (next : ∀ cap W, Hid (Conv W g N cap g l) → Below w.heap.size w W → wpList Tryd.prog ops Q rest (a.put dst (.slice (some ⟨g, 0, none⟩) N cap)) W) : wpList Tryd.prog ops Q ((⟨dst, .convert 9 22 x, ty, pos, af, none⟩ : Oper) :: rest) a w := by
  subst hg
  obtain ⟨cap, W, hrun, hC, hb⟩ := conv_list (P := Tryd.prog) w 9 22 5 l N Tryd.underlying9 Tryd.underlying22 Tryd.underlying5 hN hl
  refine wpList_plain rfl fun K hK => ?_
  unfold Oper.wp execOp
  simp only [hx]
  simp [hrun, Result.andThen, Oper.upon]
  exact hK _ _ (next cap W (Lib.hid hC) hb)
/-- string(b) of bytes that lie somewhere -/
theorem wpList_strT {ops : Array Oper} {rest : List Oper} {dst : Option Tmp} {x : Operand} {ty : TypeId} {pos : String} {af} {a : Act} {w : World} {Q : Exit → Act → World → Prop}
    (A : Option Addr) (n c : Nat) (l : List UInt8) (hx : a.eval x = .slice A n c) (hB : Bs w A n c l)
    (next : wpList Tryd.prog ops Q rest (a.put dst (str l)) w) : wpList Tryd.prog ops Q ((⟨dst, .convert 22 9 x, ty, pos, af, none⟩ : Oper) :: rest) a w := by
  have hrun := hB.str (P := Tryd.prog) 22 5 9 Tryd.underlying22 Tryd.underlying5 Tryd.underlying9
  refine wpList_plain rfl fun K hK => ?_
  unfold Oper.wp execOp
  simp only [hx]
  simp [hrun, Result.andThen, Oper.upon]
  exact hK _ _ next
theorem run_bytes4 (a b c d : UInt8) (w : World) : (Instr.buildSlice 22 4 #[(0, u8 a), (1, u8 b), (2, u8 c), (3, u8 d)]).run Tryd.prog w = .ok (.slice (some ⟨w.heap.size, 0, none⟩) 4 4) (w.alloc (.cells #[u8 a, u8 b, u8 c, u8 d] 5)) := by
  simp [Instr.buildSlice, go_sem]
/-- four bytes in a row of their own -/
theorem wpList_bytes4 {ops : Array Oper} {rest : List Oper} {dst : Option Tmp} {x0 x1 x2 x3 : Operand} {ty : TypeId} {pos : String} {af} {a : Act} {w : World} {Q : Exit → Act → World → Prop}
    (g : Nat) (b c d e : UInt8) (h0 : a.eval x0 = u8 b) (h1 : a.eval x1 = u8 c) (h2 : a.eval x2 = u8 d) (h3 : a.eval x3 = u8 e) (hg : w.heap.size = g)
    (next : wpList Tryd.prog ops Q rest (a.put dst (.slice (some ⟨g, 0, none⟩) 4 4)) (w.alloc (.cells #[u8 b, u8 c, u8 d, u8 e] 5))) : wpList Tryd.prog ops Q ((⟨dst, .buildSlice 22 4 #[(0, x0), (1, x1), (2, x2), (3, x3)], ty, pos, af, none⟩ : Oper) :: rest) a w := by
  subst hg
  refine wpList_plain rfl fun K hK => ?_
  unfold Oper.wp execOp
  simp only [List.map_toArray, List.map_cons, List.map_nil, h0, h1, h2, h3, Sem.run_bind, run_bytes4, Result.andThen_ok]
  exact hK _ _ next
/-- a byte's load -/
theorem wpList_loadU8 {ops : Array Oper} {rest : List Oper} {dst : Option Tmp} {x : Operand} {ty : TypeId} {pos : String} {af} {a : Act} {w : World} {Q : Exit → Act → World → Prop}
    (b o : Nat) (v : UInt8) (hx : a.eval x = .pointer (some ⟨b, o, none⟩)) (hc : Hid (w.cell? ⟨b, o, none⟩ = some (u8 v)))
    (next : wpList Tryd.prog ops Q rest (a.put dst (u8 v)) w) : wpList Tryd.prog ops Q ((⟨dst, .load 5 x, ty, pos, af, none⟩ : Oper) :: rest) a w := by
  have hcc := hc.out
  refine wpList_plain rfl fun K hK => ?_
  unfold Oper.wp execOp
  simp only [hx]
  have hrun : (Instr.loadAt 5 (.pointer (some ⟨b, o, none⟩))).run Tryd.prog w = .ok (u8 v) w := by
    simp [Instr.loadAt, go_sem, hcc]
  simp only [Sem.run_bind, hrun, Result.andThen_ok]
  exact hK _ _ next
end Go.Proofs.YtodgcmjdnfbegaaDoor
