/- Layer 1: the examples. -/
import Derived.Test.YtolomfdommnklaaCrc
import Derived.Test.YtolomfdommnklaaLater
import Derived.Lib.SlBytesConst
namespace Go.Proofs.Ytolomfdommnklaa
open Go.RowKit

theorem alive_sum : Crc.sum 0 [49, 50, 51, 52, 53, 54, 55, 56, 57] = 3421780262 := by decide +kernel
theorem alive_sum0 : Crc.sum 0 [] = 0 := by decide +kernel

/-- a literal's bytes, made out of a text -/
theorem Bs.litText (w : World) (l : List UInt8) (t : TypeId) (C : Array Value) (g n : Nat) (f : Nat × Nat) (hg : g = w.heap.size) (hC : C = (u8s l).toArray) (hn : n = l.length) (hl : l.length ≤ maxLen) : Bs (w.alloc (.cells C t f)) (some ⟨g, 0, none⟩) n n l := by
  subst hg hC hn
  exact Bs.of_block (f := f) (t := t) (cur := u8s l) (by show (w.heap.push _)[w.heap.size]? = _; simp) (by rw [List.take_of_length_le (by simp)]) rfl (Nat.le_refl _) hl

end Go.Proofs.Ytolomfdommnklaa
