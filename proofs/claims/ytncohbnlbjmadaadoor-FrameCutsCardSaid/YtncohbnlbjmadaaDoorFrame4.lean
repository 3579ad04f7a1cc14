/- Layer 4: the document's answers, and the examples. -/
import Derived.Test.YtncohbnlbjmadaaDoorFrame3
namespace Go.Proofs.YtncohbnlbjmadaaDoor
open Go.RowKit

theorem not_good_place {l : List UInt8} (h : good l = false) : ∃ j, j < l.length ∧ (l[j]? = some 11 ∨ badAt l j = true) := by
  apply Classical.byContradiction
  intro hne
  rw [good_of (l := l) (fun hm => by
    obtain ⟨j, hj, e⟩ := List.getElem_of_mem hm
    exact hne ⟨j, hj, .inl (by rw [List.getElem?_eq_getElem hj, e])⟩) (fun i hi => by
    cases hb : badAt l i with
    | false => rfl
    | true => exact absurd ⟨i, hi, .inr hb⟩ hne)] at h
  cases h

/-- what a call gives that answers bytes, and leaves what was there -/
def RetB (l : List UInt8) (w : World) (e : Ending) (w' : World) : Prop :=
  ∃ A c, e = .returned (.slice A l.length c) ∧ Bs w' A l.length c l ∧ Below w.heap.size w w'

/-- the document's Unwrap: the answer lies in the argument's memory -/
def RefUnw (l : List UInt8) (w : World) (e : Ending) (w' : World) : Prop :=
  ∃ A c, e = .returned (.tuple #[.slice A (unwrapGet l).length c, .int .i64 (unwrapErr l)]) ∧ Bs w A (unwrapGet l).length c (unwrapGet l) ∧ w = w'

end Go.Proofs.YtncohbnlbjmadaaDoor
