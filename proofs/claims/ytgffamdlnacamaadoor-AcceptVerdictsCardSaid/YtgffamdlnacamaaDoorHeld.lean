/- Blocks that are as they are told. -/
import Derived.Test.YtgffamdlnacamaaDoorBase
namespace Go.Proofs.YtgffamdlnacamaaDoor
open Go.RowKit

/-- blocks that are as they are told -/
def Held (W : World) : List (Nat × Obj) → Prop
  | [] => True
  | x :: r => W.heap[x.1]? = some x.2 ∧ Held W r
theorem Held.below {W W' : World} : ∀ {r : List (Nat × Obj)}, Held W r → Below W.heap.size W W' → Held W' r
  | [], _, _ => trivial
  | _ :: _, h, hb => ⟨(hb.block _ (Array.getElem?_eq_some_iff.1 h.1).1).trans h.1, h.2.below hb⟩
theorem Held.alloc {W : World} {r : List (Nat × Obj)} (h : Held W r) (o : Obj) : Held (W.alloc o) ((W.heap.size, o) :: r) :=
  ⟨heap_alloc_new W o, h.below ((Below.refl _ _).alloc (Nat.le_refl _) o)⟩
theorem Held.alloc' {W : World} {r : List (Nat × Obj)} (h : Held W r) (o : Obj) : Held (W.alloc o) r := h.below ((Below.refl _ _).alloc (Nat.le_refl _) o)
theorem Held.beneath {B : Nat} {W W' : World} : ∀ {r : List (Nat × Obj)}, Held W r → (∀ x ∈ r, x.1 < B) → Below B W W' → Held W' r
  | [], _, _, _ => trivial
  | x :: _, h, hl, hb => ⟨(hb.block _ (hl x (List.mem_cons_self ..))).trans h.1, h.2.beneath (fun y hy => hl y (List.mem_cons_of_mem _ hy)) hb⟩
end Go.Proofs.YtgffamdlnacamaaDoor
