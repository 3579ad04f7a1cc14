/- Layer 5: what frames with junk between them come to. -/
import Derived.Test.YtjeibckjockmeaaDoorDfOvr
namespace Go.Proofs.YtjeibckjockmeaaDoor
open Go.RowKit

/-- all has been fed: want was in its frames; noise bytes of junk, over frames of too many bytes -/
def BackInv (m : Nat) (all : List UInt8) (want : List (List UInt8)) (noise over : Nat) : Prop :=
  ∃ s, feedD m newS all = (s, want) ∧ s.md = .out ∧ s.broken = 0 ∧ s.over = over ∧ (over = 0 → s.junk = noise)
theorem BackInv.nil (m : Nat) : BackInv m [] [] 0 0 := ⟨newS, rfl, rfl, rfl, rfl, fun _ => rfl⟩
theorem BackInv.junk {m : Nat} {all : List UInt8} {want : List (List UInt8)} {noise over : Nat} (h : BackInv m all want noise over) (x : UInt8) (hx : x ≠ 11) : BackInv m (all ++ [x]) want (noise + 1) over := by
  obtain ⟨s, e, hmd, hb, ho, hj⟩ := h
  refine ⟨{ s with junk := s.junk + 1 }, ?_, hmd, hb, ho, fun h0 => by rw [hj h0]⟩
  rw [feedD_snoc, e, out_step hmd want x hx]
theorem BackInv.frame {m : Nat} {all l : List UInt8} {want : List (List UInt8)} {noise over : Nat} (h : BackInv m all want noise over) (hg : good l = true) (hm : l.length ≤ m) : BackInv m (all ++ 11 :: (l ++ [28, 13])) (want ++ [l]) noise over := by
  obtain ⟨s, e, hmd, hb, ho, hj⟩ := h
  refine ⟨⟨.out, [], s.junk, s.over, s.broken⟩, ?_, rfl, hb, ho, hj⟩
  rw [feedD_append, e, frame_out hmd hg hm]
theorem BackInv.over {m : Nat} {all l : List UInt8} {want : List (List UInt8)} {noise over : Nat} (h : BackInv m all want noise over) (hg : good l = true) (hm : m < l.length) : BackInv m (all ++ 11 :: (l ++ [28, 13])) want noise (over + 1) := by
  obtain ⟨s, e, hmd, hb, ho, hj⟩ := h
  obtain ⟨s2, e2, h1, h2, h3, h4⟩ := frame_over hmd hg hm
  refine ⟨s2, ?_, h1, by rw [h3, hb], by rw [h2, ho], fun h0 => by omega⟩
  rw [feedD_append, e, e2]
  simp
end Go.Proofs.YtjeibckjockmeaaDoor
