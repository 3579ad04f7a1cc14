/- A region that draws its order: what holds behind each operation may be said anew. No condition. -/
import Derived.Test.YtncohbnlbjmadaaDoorLater
import Derived.Deep.RegionHeld3
namespace Go.Proofs.YtncohbnlbjmadaaDoor
open Go.RowKit

theorem wpAnyH_imp {P : Program} {md : Region.Mode} {ops : Array Oper} {Q : Exit → Act → World → Prop} {S S' : World → Prop} (h : ∀ w, S' w → S w) : ∀ (fuel : Nat) (listed : Array Bool) (a : Act) (w : World), wpAnyH P md ops Q S' fuel listed a w → wpAnyH P md ops Q S fuel listed a w
  | 0, _, _, _, hh => hh
  | fuel + 1, _, _, _, hh => ⟨hh.1, fun i hi => wpOp_mono (fun a' w' h' => ⟨h _ h'.1, wpAnyH_imp h fuel _ a' w' h'.2⟩) (hh.2 i hi)⟩
end Go.Proofs.YtncohbnlbjmadaaDoor
