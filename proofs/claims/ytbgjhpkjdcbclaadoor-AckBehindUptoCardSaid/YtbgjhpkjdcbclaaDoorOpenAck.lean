/- The table of codes as the statement lays it; arguments that are heads. -/
import Derived.Test.YtbgjhpkjdcbclaaDoorOpen
import Derived.Test.YtbgjhpkjdcbclaaDoorOpenHead
import Derived.Test.YtbgjhpkjdcbclaaDoorAckP
namespace Go.Proofs.YtbgjhpkjdcbclaaDoor
open Go.RowKit Go.ChangeShapes Go.WideShapes

theorem cellsArr3s : Tryd.prog.cellsOf 59 = 3 := by kernel_rfl
theorem gCds : Tryd.prog.globalNamed "lamplighter/ack.codes" = some 0 := by kernel_rfl
theorem gtCds : (Tryd.prog.globals[0]?).map (·.type) = some 59 := by kernel_rfl
theorem ba_of_list3 {s : ByteArray} {l : List UInt8} (h : s.data.toList = l) : s = ⟨l.toArray⟩ := by
  subst h
  apply ByteArray.ext
  simp
set_option maxRecDepth 100000 in
theorem cds_of_laid {W : World} {rest : List (String × DataW Unit)} (h : laidMet Tryd.prog (("lamplighter/ack.codes", Rows.laid_lamplighter_ack_codes) :: rest) W) : Cds W := by
  obtain ⟨ps, ⟨g', t', cs, fuel, p, q, hg', ht', hvar, hd, _, _⟩, _⟩ := h
  obtain rfl := Option.some.inj (gCds.symm.trans hg')
  obtain rfl := Option.some.inj (gtCds.symm.trans ht')
  have hcell := fun i => World.var?_cell gCds hvar i
  obtain ⟨xs, m, _, hx, hl, hn, hi⟩ := DataW.trod_array Tryd.underlying59 hd
  obtain ⟨l⟩ := cs
  simp only [Prod.mk.injEq] at hx hl hi
  have h0 := hi 0 (by omega)
  have h1 := hi 1 (by omega)
  have h2 := hi 2 (by omega)
  rw [cellsStr] at h0 h1 h2
  rw [cellsArr3s] at hl
  match xs, hn with
  | [x0, x1, x2], _ =>
    obtain ⟨s0, e0, rfl, _⟩ := DataW.trod_string Tryd.underlying9 h0
    obtain ⟨s1, e1, rfl, _⟩ := DataW.trod_string Tryd.underlying9 h1
    obtain ⟨s2, e2, rfl, _⟩ := DataW.trod_string Tryd.underlying9 h2
    match l, hl with
    | [v0, v1, v2], _ =>
      simp at e0 e1 e2
      simp [Rows.laid_lamplighter_ack_codes] at hx
      subst e0 e1 e2
      obtain ⟨⟨y0, y1, y2⟩, _⟩ := hx
      have z0 : s0 = cB 0 := ba_of_list3 y0.symm
      have z1 : s1 = cB 1 := ba_of_list3 y1.symm
      have z2 : s2 = cB 2 := ba_of_list3 y2.symm
      subst z0 z1 z2
      exact ⟨hcell 0, hcell 1, hcell 2⟩
end Go.Proofs.YtbgjhpkjdcbclaaDoor
