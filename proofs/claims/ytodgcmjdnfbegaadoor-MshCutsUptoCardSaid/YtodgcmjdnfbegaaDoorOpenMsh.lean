/- The table of versions as the statement lays it; arguments that are texts, bytes and slices of texts. -/
import Derived.Test.YtodgcmjdnfbegaaDoorOpenSegs
import Derived.Test.YtodgcmjdnfbegaaDoorMsh1
namespace Go.Proofs.YtodgcmjdnfbegaaDoor
open Go.RowKit Go.ChangeShapes Go.WideShapes

theorem cellsArr10 : Tryd.prog.cellsOf 71 = 10 := by kernel_rfl
theorem gVers : Tryd.prog.globalNamed "lamplighter/msh.versions" = some 0 := by kernel_rfl
theorem gtVers : (Tryd.prog.globals[0]?).map (·.type) = some 71 := by kernel_rfl
theorem ba_of_list {s : ByteArray} {l : List UInt8} (h : s.data.toList = l) : s = ⟨l.toArray⟩ := by
  subst h
  apply ByteArray.ext
  simp
set_option maxRecDepth 100000 in
theorem vers_of_laid {W : World} {rest : List (String × DataW Unit)} (h : laidMet Tryd.prog (("lamplighter/msh.versions", Rows.laid_lamplighter_msh_versions) :: rest) W) : Vers W := by
  obtain ⟨ps, ⟨g', t', cs, fuel, p, q, hg', ht', hvar, hd, _, _⟩, _⟩ := h
  obtain rfl := Option.some.inj (gVers.symm.trans hg')
  obtain rfl := Option.some.inj (gtVers.symm.trans ht')
  have hcell := fun i => World.var?_cell gVers hvar i
  obtain ⟨xs, m, _, hx, hl, hn, hi⟩ := DataW.trod_array Tryd.underlying71 hd
  obtain ⟨l⟩ := cs
  simp only [Prod.mk.injEq] at hx hl hi
  have h0 := hi 0 (by omega)
  have h1 := hi 1 (by omega)
  have h2 := hi 2 (by omega)
  have h3 := hi 3 (by omega)
  have h4 := hi 4 (by omega)
  have h5 := hi 5 (by omega)
  have h6 := hi 6 (by omega)
  have h7 := hi 7 (by omega)
  have h8 := hi 8 (by omega)
  have h9 := hi 9 (by omega)
  rw [cellsStr] at h0 h1 h2 h3 h4 h5 h6 h7 h8 h9
  rw [cellsArr10] at hl
  match xs, hn with
  | [x0, x1, x2, x3, x4, x5, x6, x7, x8, x9], _ =>
    obtain ⟨s0, e0, rfl, _⟩ := DataW.trod_string Tryd.underlying9 h0
    obtain ⟨s1, e1, rfl, _⟩ := DataW.trod_string Tryd.underlying9 h1
    obtain ⟨s2, e2, rfl, _⟩ := DataW.trod_string Tryd.underlying9 h2
    obtain ⟨s3, e3, rfl, _⟩ := DataW.trod_string Tryd.underlying9 h3
    obtain ⟨s4, e4, rfl, _⟩ := DataW.trod_string Tryd.underlying9 h4
    obtain ⟨s5, e5, rfl, _⟩ := DataW.trod_string Tryd.underlying9 h5
    obtain ⟨s6, e6, rfl, _⟩ := DataW.trod_string Tryd.underlying9 h6
    obtain ⟨s7, e7, rfl, _⟩ := DataW.trod_string Tryd.underlying9 h7
    obtain ⟨s8, e8, rfl, _⟩ := DataW.trod_string Tryd.underlying9 h8
    obtain ⟨s9, e9, rfl, _⟩ := DataW.trod_string Tryd.underlying9 h9
    match l, hl with
    | [v0, v1, v2, v3, v4, v5, v6, v7, v8, v9], _ =>
      simp at e0 e1 e2 e3 e4 e5 e6 e7 e8 e9
      simp [Rows.laid_lamplighter_msh_versions] at hx
      subst e0 e1 e2 e3 e4 e5 e6 e7 e8 e9
      obtain ⟨⟨y0, y1, y2, y3, y4, y5, y6, y7, y8, y9⟩, _⟩ := hx
      have z0 : s0 = vB 0 := ba_of_list y0.symm
      have z1 : s1 = vB 1 := ba_of_list y1.symm
      have z2 : s2 = vB 2 := ba_of_list y2.symm
      have z3 : s3 = vB 3 := ba_of_list y3.symm
      have z4 : s4 = vB 4 := ba_of_list y4.symm
      have z5 : s5 = vB 5 := ba_of_list y5.symm
      have z6 : s6 = vB 6 := ba_of_list y6.symm
      have z7 : s7 = vB 7 := ba_of_list y7.symm
      have z8 : s8 = vB 8 := ba_of_list y8.symm
      have z9 : s9 = vB 9 := ba_of_list y9.symm
      subst z0 z1 z2 z3 z4 z5 z6 z7 z8 z9
      exact ⟨hcell 0, hcell 1, hcell 2, hcell 3, hcell 4, hcell 5, hcell 6, hcell 7, hcell 8, hcell 9⟩
end Go.Proofs.YtodgcmjdnfbegaaDoor
