/- Laid together: OpenSegs, OpenMsh, OpenHead, OpenAck. -/
import Derived.Test.YtgffamdlnacamaaDoorOpenStrs
import Derived.Test.YtgffamdlnacamaaDoorOpenSgn
import Derived.Test.YtgffamdlnacamaaDoorMsh1
import Derived.Test.YtgffamdlnacamaaDoorOpen
import Derived.Test.YtgffamdlnacamaaDoorAckP
import Derived.Test.YtgffamdlnacamaaDoorFrame

/- Arguments that are texts, bytes, slices of texts and signs. -/

/- The table of versions as the statement lays it; arguments that are texts, bytes and slices of texts. -/
namespace Go.Proofs.YtgffamdlnacamaaDoor
open Go.RowKit Go.ChangeShapes Go.WideShapes

theorem cellsArr10 : Tryd.prog.cellsOf 82 = 10 := by kernel_rfl
theorem gVers : Tryd.prog.globalNamed "lamplighter/msh.versions" = some 1 := by kernel_rfl
theorem gtVers : (Tryd.prog.globals[1]?).map (·.type) = some 82 := by kernel_rfl
theorem ba_of_list {s : ByteArray} {l : List UInt8} (h : s.data.toList = l) : s = ⟨l.toArray⟩ := by
  subst h
  apply ByteArray.ext
  simp
set_option maxRecDepth 100000 in
theorem vers_of_laid {W : World} {rest : List (String × DataW Unit)} (h : laidMet Tryd.prog (("lamplighter/msh.versions", Rows.laid_lamplighter_msh_versions) :: rest) W) : Vers W := by
  obtain ⟨ps, ⟨g', t', cs, fuel, p, q, hg', ht', hvar, hd, _, _⟩, _⟩ := h
  obtain rfl := Option.some.inj (gVers.symm.trans hg')
  obtain rfl := Option.some.inj (gtVers.symm.trans ht')
  have hcell := fun i => World.var?_cell gVers hvar i
  obtain ⟨xs, m, _, hx, hl, hn, hi⟩ := DataW.trod_array Tryd.underlying82 hd
  obtain ⟨l⟩ := cs
  simp only [Prod.mk.injEq] at hx hl hi
  have h0 := hi 0 (by omega)
  have h1 := hi 1 (by omega)
  have h2 := hi 2 (by omega)
  have h3 := hi 3 (by omega)
  have h4 := hi 4 (by omega)
  have h5 := hi 5 (by omega)
  have h6 := hi 6 (by omega)
  have h7 := hi 7 (by omega)
  have h8 := hi 8 (by omega)
  have h9 := hi 9 (by omega)
  rw [cellsStr] at h0 h1 h2 h3 h4 h5 h6 h7 h8 h9
  rw [cellsArr10] at hl
  match xs, hn with
  | [x0, x1, x2, x3, x4, x5, x6, x7, x8, x9], _ =>
    obtain ⟨s0, e0, rfl, _⟩ := DataW.trod_string Tryd.underlying9 h0
    obtain ⟨s1, e1, rfl, _⟩ := DataW.trod_string Tryd.underlying9 h1
    obtain ⟨s2, e2, rfl, _⟩ := DataW.trod_string Tryd.underlying9 h2
    obtain ⟨s3, e3, rfl, _⟩ := DataW.trod_string Tryd.underlying9 h3
    obtain ⟨s4, e4, rfl, _⟩ := DataW.trod_string Tryd.underlying9 h4
    obtain ⟨s5, e5, rfl, _⟩ := DataW.trod_string Tryd.underlying9 h5
    obtain ⟨s6, e6, rfl, _⟩ := DataW.trod_string Tryd.underlying9 h6
    obtain ⟨s7, e7, rfl, _⟩ := DataW.trod_string Tryd.underlying9 h7
    obtain ⟨s8, e8, rfl, _⟩ := DataW.trod_string Tryd.underlying9 h8
    obtain ⟨s9, e9, rfl, _⟩ := DataW.trod_string Tryd.underlying9 h9
    match l, hl with
    | [v0, v1, v2, v3, v4, v5, v6, v7, v8, v9], _ =>
      simp at e0 e1 e2 e3 e4 e5 e6 e7 e8 e9
      simp [Rows.laid_lamplighter_msh_versions] at hx
      subst e0 e1 e2 e3 e4 e5 e6 e7 e8 e9
      obtain ⟨⟨y0, y1, y2, y3, y4, y5, y6, y7, y8, y9⟩, _⟩ := hx
      have z0 : s0 = vB 0 := ba_of_list y0.symm
      have z1 : s1 = vB 1 := ba_of_list y1.symm
      have z2 : s2 = vB 2 := ba_of_list y2.symm
      have z3 : s3 = vB 3 := ba_of_list y3.symm
      have z4 : s4 = vB 4 := ba_of_list y4.symm
      have z5 : s5 = vB 5 := ba_of_list y5.symm
      have z6 : s6 = vB 6 := ba_of_list y6.symm
      have z7 : s7 = vB 7 := ba_of_list y7.symm
      have z8 : s8 = vB 8 := ba_of_list y8.symm
      have z9 : s9 = vB 9 := ba_of_list y9.symm
      subst z0 z1 z2 z3 z4 z5 z6 z7 z8 z9
      exact ⟨hcell 0, hcell 1, hcell 2, hcell 3, hcell 4, hcell 5, hcell 6, hcell 7, hcell 8, hcell 9⟩
end Go.Proofs.YtgffamdlnacamaaDoor

/- An argument that is a head. -/
namespace Go.Proofs.YtgffamdlnacamaaDoor
open Go.RowKit Go.ChangeShapes Go.WideShapes

theorem cellsHead : Tryd.prog.cellsOf 27 = 15 := by kernel_rfl
theorem cellsSgn : Tryd.prog.cellsOf 25 = 5 := by kernel_rfl
/-- the parts of a struct of signs -/
theorem open_sgn {H : Type} {enc : TypeId × Value → H} {W : World} {base : Nat} {spare : Nat → Bool} {held : Bool} {n : Nat} {v0 v1 v2 v3 v4 : Value} {y : DataW H} {p : List MemPlace}
    (h : DataW.trod enc Tryd.prog W base spare held n 25 [v0, v1, v2, v3, v4] = some (y, p)) : ∃ s : Sgn, v0 = u8 s.a ∧ v1 = u8 s.b ∧ v2 = u8 s.c ∧ v3 = u8 s.d ∧ v4 = u8 s.e ∧ p = [] := by
  obtain ⟨xs, m, _, hx, hl, hn, hi⟩ := DataW.trod_struct Tryd.underlying25 h
  have h0 := hi 0 _ rfl
  have h1 := hi 1 _ rfl
  have h2 := hi 2 _ rfl
  have h3 := hi 3 _ rfl
  have h4 := hi 4 _ rfl
  simp only [Prod.mk.injEq] at hx
  match xs, hn with
  | [x0, x1, x2, x3, x4], _ =>
    simp only [List.getElem_toArray, List.getElem_cons_zero, List.getElem_cons_succ, cellsByte] at h0 h1 h2 h3 h4
    obtain ⟨n0, e0, rfl, w0⟩ := DataW.trod_int Tryd.underlying5 h0
    obtain ⟨n1, e1, rfl, w1⟩ := DataW.trod_int Tryd.underlying5 h1
    obtain ⟨n2, e2, rfl, w2⟩ := DataW.trod_int Tryd.underlying5 h2
    obtain ⟨n3, e3, rfl, w3⟩ := DataW.trod_int Tryd.underlying5 h3
    obtain ⟨n4, e4, rfl, w4⟩ := DataW.trod_int Tryd.underlying5 h4
    simp at e0 e1 e2 e3 e4 hx
    subst e0 e1 e2 e3 e4
    obtain ⟨b0, rfl⟩ := u8_of _ w0
    obtain ⟨b1, rfl⟩ := u8_of _ w1
    obtain ⟨b2, rfl⟩ := u8_of _ w2
    obtain ⟨b3, rfl⟩ := u8_of _ w3
    obtain ⟨b4, rfl⟩ := u8_of _ w4
    exact ⟨⟨b0, b1, b2, b3, b4⟩, rfl, rfl, rfl, rfl, rfl, hx.2⟩
set_option maxRecDepth 100000 in
theorem open_head {H : Type} {enc : TypeId × Value → H} {W : World} {base : Nat} {v : Value} {d : DataW H} {p : List MemPlace} (ok : Value.okWide Tryd.prog W .any base 27 v)
    (h : DataW.Trod enc Tryd.prog W 0 (fun _ => true) true 27 v d p) : ∃ h : Hd, v = h.v ∧ p = [] ∧ Lib.lens (h.l.map (·.data.toList)) ≤ Rows.uptoBulk d := by
  simp only [Value.okWide, Tryd.underlying27] at ok
  obtain ⟨cs, rfl, hsz, _⟩ := ok
  obtain ⟨fuel, hf⟩ := h
  obtain ⟨xs, m, _, hx, hl, hn, hi⟩ := DataW.trod_struct Tryd.underlying27 hf
  obtain ⟨l⟩ := cs
  simp only [Value.cells, Prod.mk.injEq] at hx hl hi
  rw [cellsHead] at hl

  match l, hl with
  | [v0, v1, v2, v3, v4, v5, v6, v7, v8, v9, v10, v11, v12, v13, v14], _ =>
    have h0 := hi 0 _ rfl
    have h1 := hi 1 _ rfl
    have h2 := hi 2 _ rfl
    have h3 := hi 3 _ rfl
    have h4 := hi 4 _ rfl
    have h5 := hi 5 _ rfl
    have h6 := hi 6 _ rfl
    have h7 := hi 7 _ rfl
    have h8 := hi 8 _ rfl
    have h9 := hi 9 _ rfl
    have h10 := hi 10 _ rfl
    match xs, hn with
    | [(y0, p0), (y1, p1), (y2, p2), (y3, p3), (y4, p4), (y5, p5), (y6, p6), (y7, p7), (y8, p8), (y9, p9), (y10, p10)], _ =>
      simp only [List.getElem_toArray, List.getElem_cons_zero, List.getElem_cons_succ, cellsSgn, cellsStr] at h0 h1 h2 h3 h4 h5 h6 h7 h8 h9 h10
      obtain ⟨s, rfl, rfl, rfl, rfl, rfl, q0⟩ := open_sgn h0
      obtain ⟨s1, e1, f1, _⟩ := DataW.trod_string Tryd.underlying9 h1
      obtain ⟨s2, e2, f2, _⟩ := DataW.trod_string Tryd.underlying9 h2
      obtain ⟨s3, e3, f3, _⟩ := DataW.trod_string Tryd.underlying9 h3
      obtain ⟨s4, e4, f4, _⟩ := DataW.trod_string Tryd.underlying9 h4
      obtain ⟨s5, e5, f5, _⟩ := DataW.trod_string Tryd.underlying9 h5
      obtain ⟨s6, e6, f6, _⟩ := DataW.trod_string Tryd.underlying9 h6
      obtain ⟨s7, e7, f7, _⟩ := DataW.trod_string Tryd.underlying9 h7
      obtain ⟨s8, e8, f8, _⟩ := DataW.trod_string Tryd.underlying9 h8
      obtain ⟨s9, e9, f9, _⟩ := DataW.trod_string Tryd.underlying9 h9
      obtain ⟨s10, e10, f10, _⟩ := DataW.trod_string Tryd.underlying9 h10
      simp only [List.drop_succ_cons, List.drop_zero, List.take_succ_cons, List.take_zero, List.cons.injEq, and_true, Prod.mk.injEq] at e1 f1 e2 f2 e3 f3 e4 f4 e5 f5 e6 f6 e7 f7 e8 f8 e9 f9 e10 f10
      subst e1 e2 e3 e4 e5 e6 e7 e8 e9 e10
      obtain ⟨g1, k1⟩ := f1
      obtain ⟨g2, k2⟩ := f2
      obtain ⟨g3, k3⟩ := f3
      obtain ⟨g4, k4⟩ := f4
      obtain ⟨g5, k5⟩ := f5
      obtain ⟨g6, k6⟩ := f6
      obtain ⟨g7, k7⟩ := f7
      obtain ⟨g8, k8⟩ := f8
      obtain ⟨g9, k9⟩ := f9
      obtain ⟨g10, k10⟩ := f10
      subst q0 g1 k1 g2 k2 g3 k3 g4 k4 g5 k5 g6 k6 g7 k7 g8 k8 g9 k9 g10 k10
      refine ⟨⟨s, s1, s2, s3, s4, s5, s6, s7, s8, s9, s10⟩, rfl, by rw [hx.2]; rfl, ?_⟩
      rw [hx.1]
      simp only [List.map_cons, List.map_nil, Rows.uptoBulk, Rows.uptoBulkAll, Hd.l, Lib.lens, List.sum_cons, List.sum_nil]
      omega
end Go.Proofs.YtgffamdlnacamaaDoor

/- The table of codes as the statement lays it; arguments that are heads. -/
namespace Go.Proofs.YtgffamdlnacamaaDoor
open Go.RowKit Go.ChangeShapes Go.WideShapes

theorem cellsArr3s : Tryd.prog.cellsOf 101 = 3 := by kernel_rfl
theorem gCds : Tryd.prog.globalNamed "lamplighter/ack.codes" = some 2 := by kernel_rfl
theorem gtCds : (Tryd.prog.globals[2]?).map (·.type) = some 101 := by kernel_rfl
theorem ba_of_list3 {s : ByteArray} {l : List UInt8} (h : s.data.toList = l) : s = ⟨l.toArray⟩ := by
  subst h
  apply ByteArray.ext
  simp
set_option maxRecDepth 100000 in
theorem cds_of_laid {W : World} {rest : List (String × DataW Unit)} (h : laidMet Tryd.prog (("lamplighter/ack.codes", Rows.laid_lamplighter_ack_codes) :: rest) W) : Cds W := by
  obtain ⟨ps, ⟨g', t', cs, fuel, p, q, hg', ht', hvar, hd, _, _⟩, _⟩ := h
  obtain rfl := Option.some.inj (gCds.symm.trans hg')
  obtain rfl := Option.some.inj (gtCds.symm.trans ht')
  have hcell := fun i => World.var?_cell gCds hvar i
  obtain ⟨xs, m, _, hx, hl, hn, hi⟩ := DataW.trod_array Tryd.underlying101 hd
  obtain ⟨l⟩ := cs
  simp only [Prod.mk.injEq] at hx hl hi
  have h0 := hi 0 (by omega)
  have h1 := hi 1 (by omega)
  have h2 := hi 2 (by omega)
  rw [cellsStr] at h0 h1 h2
  rw [cellsArr3s] at hl
  match xs, hn with
  | [x0, x1, x2], _ =>
    obtain ⟨s0, e0, rfl, _⟩ := DataW.trod_string Tryd.underlying9 h0
    obtain ⟨s1, e1, rfl, _⟩ := DataW.trod_string Tryd.underlying9 h1
    obtain ⟨s2, e2, rfl, _⟩ := DataW.trod_string Tryd.underlying9 h2
    match l, hl with
    | [v0, v1, v2], _ =>
      simp at e0 e1 e2
      simp [Rows.laid_lamplighter_ack_codes] at hx
      subst e0 e1 e2
      obtain ⟨⟨y0, y1, y2⟩, _⟩ := hx
      have z0 : s0 = cB 0 := ba_of_list3 y0.symm
      have z1 : s1 = cB 1 := ba_of_list3 y1.symm
      have z2 : s2 = cB 2 := ba_of_list3 y2.symm
      subst z0 z1 z2
      exact ⟨hcell 0, hcell 1, hcell 2⟩
end Go.Proofs.YtgffamdlnacamaaDoor

/- The three tables as the statements lay them. -/
namespace Go.Proofs.YtgffamdlnacamaaDoor
open Go.RowKit Go.ChangeShapes Go.WideShapes

theorem laid_tail {P : Program} {x : String × DataW Unit} {r : List (String × DataW Unit)} {w : World} (h : laidMet P (x :: r) w) : laidMet P r w := by
  obtain ⟨ps, hl, hn, hc⟩ := h
  obtain ⟨n, d⟩ := x
  obtain ⟨g, t, cs, fuel, p, q, h1, h2, h3, h4, h5, rfl⟩ := hl
  exact ⟨q, h5, (List.nodup_append.1 hn).2.1, fun b off hm => hc b off (List.mem_append_right _ hm)⟩
theorem gSgs : Tryd.prog.globalNamed "lamplighter/frame.signs" = some 0 := by kernel_rfl
theorem gtSgs : (Tryd.prog.globals[0]?).map (·.type) = some 64 := by kernel_rfl
theorem gcSgs : Tryd.prog.cellsOf 64 = 3 := by kernel_rfl
theorem geSgs : Tryd.prog.cellsOf 5 = 1 := by kernel_rfl
theorem signs_of_laid {W : World} {rest : List (String × DataW Unit)} (h : laidMet Tryd.prog (("lamplighter/frame.signs", Rows.laid_lamplighter_frame_signs) :: rest) W) : Signs W := by
  have t : Lib.TabIs Tryd.prog W "lamplighter/frame.signs" .u8 [11, 28, 13] := Lib.tabIs_of_head (rest := rest) gSgs gtSgs Tryd.underlying64 Tryd.underlying5 geSgs gcSgs h
  exact ⟨t.cell gSgs 0 (by decide), t.cell gSgs 1 (by decide), t.cell gSgs 2 (by decide)⟩
theorem acc_laid {W : World} (h : laidMet Tryd.prog [("lamplighter/frame.signs", Rows.laid_lamplighter_frame_signs), ("lamplighter/msh.versions", Rows.laid_lamplighter_msh_versions), ("lamplighter/ack.codes", Rows.laid_lamplighter_ack_codes)] W) : Vers W ∧ Signs W ∧ Cds W :=
  ⟨vers_of_laid (laid_tail h), signs_of_laid h, cds_of_laid (laid_tail (laid_tail h))⟩
end Go.Proofs.YtgffamdlnacamaaDoor
