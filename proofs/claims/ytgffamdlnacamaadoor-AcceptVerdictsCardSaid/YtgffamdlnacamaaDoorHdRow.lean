/- Heads as whole rows: a load, a store and an answer of a head, in one step each. -/
import Derived.Test.YtgffamdlnacamaaDoorMsh1
import Derived.Laws.Rows
import Derived.Laws.ResultCell
import Derived.Laws.CopyOwn
import Derived.Deep.Quiet
namespace Go.Proofs.YtgffamdlnacamaaDoor
open Go.RowKit

theorem head_size : (Tryd.prog.info? TH).map (·.size) = some 15 := by kernel_rfl
theorem cells_one (h : Hd) : h.cells.all (·.oneCell') = true := by kernel_rfl
theorem BoxH.setRow {h0 : Hd} {g : Nat} {w : World} (k : BoxH h0 g w) (h : Hd) : BoxH h g (w.setRow g h.cells) := setRow_heap w g _ _ _ _ k
theorem BoxH.setRow_other {h : Hd} {g t : Nat} {w : World} (k : BoxH h g w) (hne : g ≠ t) (c : Array Value) : BoxH h g (w.setRow t c) := (_root_.Go.setRow_other w t g c hne).trans k
theorem BoxS.setRow_other {d : Sgn} {g t : Nat} {w : World} (k : BoxS d g w) (hne : g ≠ t) (c : Array Value) : BoxS d g (w.setRow t c) := (_root_.Go.setRow_other w t g c hne).trans k

theorem wp_storeH {dst : Option Tmp} {x y : Operand} {ty : TypeId} {pos : String} {af} {a : Act} {w : World} {K : Act → World → Prop} {Q : Exit → Act → World → Prop} {gd}
    (g : Nat) (h h0 : Hd) (hx : a.eval x = .pointer (some ⟨g, 0, none⟩)) (hy : a.eval y = h.v) (k : BoxH h0 g w)
    (next : K (a.put dst undef) (w.setRow g h.cells)) : (⟨dst, .store TH x y, ty, pos, af, gd⟩ : Oper).wp Tryd.prog a w K Q :=
  wp_store_row TH x y rfl g h.cells hx hy TH h0.cells k head_size rfl (cells_one h) next
theorem wpList_storeH {ops : Array Oper} {rest : List Oper} {dst : Option Tmp} {x y : Operand} {ty : TypeId} {pos : String} {af} {a : Act} {w : World} {Q : Exit → Act → World → Prop}
    (g : Nat) (h h0 : Hd) (hx : a.eval x = .pointer (some ⟨g, 0, none⟩)) (hy : a.eval y = h.v) (k : BoxH h0 g w)
    (next : wpList Tryd.prog ops Q rest (a.put dst undef) (w.setRow g h.cells)) : wpList Tryd.prog ops Q ((⟨dst, .store TH x y, ty, pos, af, none⟩ : Oper) :: rest) a w :=
  wpList_store_row rfl TH x y rfl g h.cells hx hy TH h0.cells k head_size rfl (cells_one h) next
theorem wp_loadH {dst : Option Tmp} {x : Operand} {ty : TypeId} {pos : String} {af} {a : Act} {w : World} {K : Act → World → Prop} {Q : Exit → Act → World → Prop} {gd}
    (g : Nat) (h : Hd) (hx : a.eval x = .pointer (some ⟨g, 0, none⟩)) (k : BoxH h g w)
    (next : K (a.put dst h.v) w) : (⟨dst, .load TH x, ty, pos, af, gd⟩ : Oper).wp Tryd.prog a w K Q :=
  wp_load_row TH x rfl g hx TH h.cells (0, 0) _ k Tryd.underlying27 rfl head_size next
theorem wpList_loadH {ops : Array Oper} {rest : List Oper} {dst : Option Tmp} {x : Operand} {ty : TypeId} {pos : String} {af} {a : Act} {w : World} {Q : Exit → Act → World → Prop}
    (g : Nat) (h : Hd) (hx : a.eval x = .pointer (some ⟨g, 0, none⟩)) (k : BoxH h g w)
    (next : wpList Tryd.prog ops Q rest (a.put dst h.v) w) : wpList Tryd.prog ops Q ((⟨dst, .load TH x, ty, pos, af, none⟩ : Oper) :: rest) a w :=
  wpList_load_row rfl TH x rfl g hx TH h.cells (0, 0) _ k Tryd.underlying27 rfl head_size next
theorem wpList_buildH {ops : Array Oper} {rest : List Oper} {dst : Option Tmp} {parts : List (Nat × Operand)} {ty : TypeId} {pos : String} {af} {a : Act} {w : World} {Q : Exit → Act → World → Prop}
    (h : Hd) (vs : List (Nat × Value)) (hv : (parts.map fun p => (p.1, a.eval p.2)) = vs) (hb : Tryd.prog.built TH vs = some h.cells)
    (next : wpList Tryd.prog ops Q rest (a.put dst h.v) w) : wpList Tryd.prog ops Q ((⟨dst, .build TH parts.toArray, ty, pos, af, none⟩ : Oper) :: rest) a w := by
  have e : (parts.toArray.map fun (p : Nat × Operand) => (p.1, a.eval p.2)).toList = vs := by rw [← hv]; simp
  refine wpList_build rfl TH parts.toArray rfl ?_ ?_
  · show (Tryd.prog.built TH (parts.toArray.map fun (p : Nat × Operand) => (p.1, a.eval p.2)).toList).isSome = true
    rw [e, hb]; rfl
  · show wpList _ _ _ _ (a.put dst (.agg ((Tryd.prog.built TH (parts.toArray.map fun (p : Nat × Operand) => (p.1, a.eval p.2)).toList).getD #[]))) _
    rw [e, hb]; exact next
/-- a head's parts -/
abbrev Hd.parts (h : Hd) : List (Nat × Value) := [(0, h.d.v), (1, .string h.a0), (2, .string h.a1), (3, .string h.a2), (4, .string h.a3), (5, .string h.a4), (6, .string h.a5), (7, .string h.a6), (8, .string h.a7), (9, .string h.a8), (10, .string h.a9)]
theorem built_parts (h : Hd) : Tryd.prog.built TH h.parts = some h.cells := by kernel_rfl
theorem wpList_loadHG {ops : Array Oper} {rest : List Oper} {dst : Option Tmp} {x : Operand} {ty : TypeId} {pos : String} {af} {gd} {a : Act} {w : World} {Q : Exit → Act → World → Prop}
    (g : Nat) (h : Hd) (hw : Region.wanted (⟨dst, .load TH x, ty, pos, af, gd⟩ : Oper) (yielded ops a.tmps) = true) (hx : a.eval x = .pointer (some ⟨g, 0, none⟩)) (k : BoxH h g w)
    (next : wpList Tryd.prog ops Q rest (a.put dst h.v) w) : wpList Tryd.prog ops Q ((⟨dst, .load TH x, ty, pos, af, gd⟩ : Oper) :: rest) a w :=
  wpList_step fun K hK => by rw [if_pos hw]; exact wp_loadH g h hx k (hK _ _ next)
/-- an answer of a head and one more -/
theorem resultsH {fn : Func} {p u : Tmp} (hf : fn.results = #[.cell p TH, .tmp u]) (tmps : Array Value) (w : World) (g : Nat) (h : Hd) (z : Value)
    (hp : tmps.getD p undef = .pointer (some ⟨g, 0, none⟩)) (hz : tmps.getD u undef = z) (k : BoxH h g w) : (results fn tmps).run Tryd.prog w = .ok (.tuple #[h.v, z]) w := by
  rw [results_cell_tmp hf, hp, hz]
  simp only [asAddr]
  rw [show (pure (⟨g, 0, none⟩ : Addr) : Sem Addr).run Tryd.prog w = .ok ⟨g, 0, none⟩ w from rfl]
  simp only [Result.andThen_ok]
  rw [run_loadVar_row w g TH TH h.cells (0, 0) _ k Tryd.underlying27 rfl head_size]
  rfl
/-- an answer of a head alone -/
theorem resultsH1 {fn : Func} {p : Tmp} (hf : fn.results = #[.cell p TH]) (tmps : Array Value) (w : World) (g : Nat) (h : Hd)
    (hp : tmps.getD p undef = .pointer (some ⟨g, 0, none⟩)) (k : BoxH h g w) : (results fn tmps).run Tryd.prog w = .ok h.v w := by
  exact results_cell_row hf tmps w g TH h.cells (0, 0) _ hp k Tryd.underlying27 rfl head_size

/-- a head's load in a walk of reads alone -/
theorem wpQuiet_loadH {ops : Array Oper} {rest : List Oper} {dst : Option Tmp} {x : Operand} {ty : TypeId} {pos : String} {af} {gd} {a : Act} {C : World → Prop} {Q : Act → Prop}
    (g : Nat) (h : Hd) (hw : Region.wanted (⟨dst, .load TH x, ty, pos, af, gd⟩ : Oper) (yielded ops a.tmps) = true) (hx : a.eval x = .pointer (some ⟨g, 0, none⟩)) (k : ∀ W, C W → BoxH h g W)
    (next : wpQuiet Tryd.prog ops C Q rest (a.put dst h.v)) : wpQuiet Tryd.prog ops C Q ((⟨dst, .load TH x, ty, pos, af, gd⟩ : Oper) :: rest) a := by
  unfold wpQuiet
  rw [if_pos hw]
  refine ⟨h.v, fun W hW => ?_, next⟩
  unfold Oper.quietAt execOp
  simp only [hx, Instr.loadAt, Instr.sureAddr, Sem.run_bind, Sem.run_pure, Result.andThen_ok, run_loadVar_row W g TH TH h.cells (0, 0) _ (k W hW) Tryd.underlying27 rfl head_size]
  exact ⟨rfl, rfl⟩
end Go.Proofs.YtgffamdlnacamaaDoor
