/- An argument that is a slice of ints. -/
import Derived.Test.YtbbamdcdpololaaOpen
import Derived.Test.YtbbamdcdpololaaDfPiecesW
namespace Go.Proofs.Ytbbamdcdpololaa
open Go.RowKit Go.ChangeShapes Go.WideShapes

theorem cellsInt : Try.prog.cellsOf 3 = 1 := by kernel_rfl
theorem open_ints' {H : Type} {enc : TypeId × Value → H} {W : World} {A : Option Addr} {len cap : Nat} {d : DataW H} {p : List MemPlace}
    (h : DataW.Trod enc Try.prog W 0 (fun _ => true) true 41 (.slice A len cap) d p) : ∃ Z, Is W A len cap Z := by
  obtain ⟨fuel, hf⟩ := h
  rcases open_ints Try.underlying41 Try.underlying3 cellsInt hf with ⟨hcs, _⟩ | ⟨x, l, c, zs, hcs, _, hl, hm, hz, hx, hcell, hwz⟩
  · simp [Value.cells] at hcs
    obtain ⟨rfl, rfl, rfl⟩ := hcs
    exact ⟨[], rfl, by omega, by simp [maxLen], fun h => by omega⟩
  · simp [Value.cells] at hcs
    obtain ⟨rfl, rfl, rfl⟩ := hcs
    simp only [if_true] at hz
    refine ⟨zs.take len, by rw [List.length_take]; omega, hl, hm, fun hn => ?_⟩
    have h0 := hcell 0 (by omega)
    obtain ⟨b, off, spot⟩ := x
    have hspot : spot = none := by simpa [Addr.add] using World.cell?_spot h0
    subst hspot
    refine ⟨b, off, rfl, World.block_lt_of_cell? W _ h0, fun i y hy => ?_⟩
    rw [List.getElem?_take] at hy
    split at hy
    · have hiz : i < zs.length := by omega
      have hc := hcell i hiz
      rw [Addr.add_lit] at hc
      rw [hc, List.getD_eq_getElem?_getD, hy]
      rfl
    · cases hy
end Go.Proofs.Ytbbamdcdpololaa
