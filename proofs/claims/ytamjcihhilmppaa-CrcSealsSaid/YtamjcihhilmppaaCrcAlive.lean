/- Layer 1: the examples. -/
import Derived.Test.YtamjcihhilmppaaCrc
import Derived.Test.YtamjcihhilmppaaLater
import Derived.Lib.SlBytesConst
namespace Go.Proofs.Ytamjcihhilmppaa
open Go.RowKit

theorem alive_sum : Crc.sum 0 [49, 50, 51, 52, 53, 54, 55, 56, 57] = 3421780262 := by decide +kernel
theorem alive_sum0 : Crc.sum 0 [] = 0 := by decide +kernel

/-- a literal's bytes, made out of a text -/
theorem Bs.litText (w : World) (l : List UInt8) (t : TypeId) (C : Array Value) (g n : Nat) (f : Nat × Nat) (hg : g = w.heap.size) (hC : C = (u8s l).toArray) (hn : n = l.length) (hl : l.length ≤ maxLen) : Bs (w.alloc (.cells C t f)) (some ⟨g, 0, none⟩) n n l := by
  subst hg hC hn
  exact Bs.of_block (f := f) (t := t) (cur := u8s l) (by show (w.heap.push _)[w.heap.size]? = _; simp) (by rw [List.take_of_length_le (by simp)]) rfl (Nat.le_refl _) hl

set_option maxRecDepth 100000 in
theorem crcAlive (w : World) : Calls Try.prog 14 #[] w (True_ w) := by
  have hcv := fun C n c => Lib.run_convert_bytes_const (P := Try.prog) w 22 5 C n c Try.underlying22 Try.underlying5
  go_enter Try.func14, Try.ntmps14
  go_wp2_with (fail)
  refine (crcSum _ _ _ [49, 50, 51, 52, 53, 54, 55, 56, 57] _ (Bs.litText w [49, 50, 51, 52, 53, 54, 55, 56, 57] 5 _ _ _ _ rfl rfl rfl (by simp [maxLen]))).mono ?_
  rw [alive_sum]
  rintro e w1 ⟨rfl, rfl⟩
  go_wp2_with (fail)
  refine (crcSum _ _ _ [] _ (Bs.none_ _)).mono ?_
  rw [alive_sum0]
  rintro e w1 ⟨rfl, rfl⟩
  go_wp2
  go_ret
  exact ⟨rfl, (Below.refl _ _).alloc (Nat.le_refl _) _⟩
end Go.Proofs.Ytamjcihhilmppaa
