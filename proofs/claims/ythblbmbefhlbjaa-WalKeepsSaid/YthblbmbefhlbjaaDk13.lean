/- Layer 2: Rename, walked to its end. -/
import Derived.Test.YthblbmbefhlbjaaDk12
namespace Go.Proofs.Ythblbmbefhlbjaa
open Go.RowKit Go.MapKept

section
variable {w w' : World} {B D M : Nat} {d d1 : Dk}
theorem boxes3 (w : World) (D : Nat) (nm to : ByteArray) : Below w.heap.size w (((w.alloc (.cells #[pD D] 41)).alloc (.cells #[.string nm] 9)).alloc (.cells #[.string to] 9)) ∧ (((w.alloc (.cells #[pD D] 41)).alloc (.cells #[.string nm] 9)).alloc (.cells #[.string to] 9)).heap[w.heap.size]? = some (.cells #[pD D] 41) ∧ (((w.alloc (.cells #[pD D] 41)).alloc (.cells #[.string nm] 9)).alloc (.cells #[.string to] 9)).heap[w.heap.size + 1]? = some (.cells #[.string nm] 9) ∧ (((w.alloc (.cells #[pD D] 41)).alloc (.cells #[.string nm] 9)).alloc (.cells #[.string to] 9)).heap[w.heap.size + 1 + 1]? = some (.cells #[.string to] 9) ∧ (((w.alloc (.cells #[pD D] 41)).alloc (.cells #[.string nm] 9)).alloc (.cells #[.string to] 9)).heap.size = w.heap.size + 1 + 1 + 1 := by
  refine ⟨(((Below.refl _ _).alloc (Nat.le_refl _) _).alloc (by simp) _).alloc (by simp; omega) _, ?_, ?_, ?_, by simp⟩
  all_goals
    simp only [World.alloc, Array.getElem?_push, Array.size_push]
  · rw [if_neg (by omega), if_neg (by omega), if_pos trivial]
  · rw [if_neg (by omega), if_pos trivial]
  · rw [if_pos trivial]
def RenR (B D M : Nat) (d1 : Dk) (F F' : List Ent) (w w' : World) : Prop := DkAt w' B D M d1 F' ∧ DkCh D M F F' w w'

end
end Go.Proofs.Ythblbmbefhlbjaa
