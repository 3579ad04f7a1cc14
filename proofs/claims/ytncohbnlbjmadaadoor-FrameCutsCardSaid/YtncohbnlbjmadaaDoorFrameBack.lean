/- The law FrameBack, walked. -/
import Derived.Test.YtncohbnlbjmadaaDoorFrameMath
namespace Go.Proofs.YtncohbnlbjmadaaDoor
open Go.RowKit

theorem frameUnwrap_err (A : Option Addr) (n c : Nat) (l : List UInt8) (w : World) (hS : Signs w) (hB : Bs w A n c l) (hN : n ≤ 140737488351232) (hf : isFrame l = false) :
    Calls Tryd.prog 8 #[.slice A n c] w fun e w' => ∃ r, r ≠ 0 ∧ RetBs r [] w e w' := by
  have h := frameUnwrap A n c l w hS hB hN
  by_cases h3 : l.length < 3
  · obtain ⟨h1, h2⟩ := unwrap_short h3
    rw [h1, h2] at h
    exact h.mono fun e w' hr => ⟨7, by omega, hr⟩
  · obtain ⟨h1, h2⟩ := unwrap_not (by omega) hf
    rw [h1, h2] at h
    exact h.mono fun e w' hr => ⟨10, by omega, hr⟩

end Go.Proofs.YtncohbnlbjmadaaDoor
