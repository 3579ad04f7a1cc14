/- Layer 2: the example, walked. -/
import Derived.Test.YtolomfdommnklaaDk5
namespace Go.Proofs.Ytolomfdommnklaa
open Go.RowKit Go.MapKept

theorem fsOf_nil {F : List Ent} (h : fsOf F = []) : F = [] := by cases F with | nil => rfl | cons a r => cases h
theorem fsOf_one {F : List Ent} {n : ByteArray} {f : Fl} (h : fsOf F = [(n, f)]) : ∃ g v, F = [⟨n, g, v, f⟩] := by
  cases F with
  | nil => cases h
  | cons a r =>
    obtain ⟨nm, g, v, fl⟩ := a
    simp only [fsOf, List.map_cons, List.cons.injEq, Prod.mk.injEq] at h
    obtain ⟨⟨rfl, rfl⟩, h2⟩ := h
    obtain rfl := fsOf_nil h2
    exact ⟨g, v, rfl⟩
abbrev nmA : ByteArray := ⟨#[97]⟩
theorem nameA : nameD nmA = true := by decide +kernel
theorem lensNil : FileLens [] := fun e he => by cases he
abbrev dk5 (u o : Int) : Dk := ⟨5, u, o, 0, 0, 0⟩
theorem dk5_ok (u o : Int) (hu : 0 ≤ u ∧ u ≤ 5) (ho : 0 ≤ o ∧ o ≤ 10) : (dk5 u o).Ok := ⟨show (0 : Int) ≤ 5 ∧ (5 : Int) ≤ 1073741824 by decide, show 0 ≤ u ∧ u ≤ 1073741824 by omega, show 0 ≤ o ∧ o ≤ 1152921504606846976 by omega, show (0 : Int) ≤ 0 ∧ (0 : Int) ≤ 9223372036854775807 by decide, show (0 : Int) ≤ 0 ∧ (0 : Int) ≤ 9223372036854775807 by decide, show -9223372036854775808 ≤ (0 : Int) ∧ (0 : Int) ≤ 9223372036854775807 by decide⟩

end Go.Proofs.Ytolomfdommnklaa
