/- A literal's bytes. -/
import Derived.Test.YtgffamdlnacamaaDoorBase
import Derived.Lib.SlBytesConst
namespace Go.Proofs.YtgffamdlnacamaaDoor
open Go.RowKit

/-- a literal's bytes, made out of a text -/
theorem Bs.litText (w : World) (l : List UInt8) (t : TypeId) (C : Array Value) (g n : Nat) (f : Nat × Nat) (hg : g = w.heap.size) (hC : C = (u8s l).toArray) (hn : n = l.length) (hl : l.length ≤ maxLen) : Bs (w.alloc (.cells C t f)) (some ⟨g, 0, none⟩) n n l := by
  subst hg hC hn
  exact Bs.of_block (f := f) (t := t) (cur := u8s l) (by show (w.heap.push _)[w.heap.size]? = _; simp) (by rw [List.take_of_length_le (by simp)]) rfl (Nat.le_refl _) hl
end Go.Proofs.YtgffamdlnacamaaDoor
