/- Layer 2: the law's call of any change, walked. -/
import Derived.Test.YtolomfdommnklaaDk14
import Derived.Test.YtolomfdommnklaaDk10
namespace Go.Proofs.Ytolomfdommnklaa
open Go.RowKit Go.MapKept

/-- how the law's call ends -/
def retO : Int × (Int ⊕ Int) → Ending
  | (n, .inl x) => retC n x false 0
  | (_, .inr op) => retC 0 0 true op
abbrev OutN := (Int × (Int ⊕ Int)) × Dk × Fs
def CEnds (B D M : Nat) (F : List Ent) (w : World) (r : OutN) (e : Ending) (w' : World) : Prop :=
  ∃ F', e = retO r.1 ∧ DkAt w' B D M r.2.1 F' ∧ DkCh D M F F' w w' ∧ fsOf F' = r.2.2
section
variable {w : World} {B D M : Nat} {d : Dk} {F : List Ent}
end
end Go.Proofs.Ytolomfdommnklaa
