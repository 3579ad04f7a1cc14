/- An argument that is a struct of five bytes. -/
import Derived.Test.YtgffamdlnacamaaDoorOpen
import Derived.Test.YtgffamdlnacamaaDoorSgn
namespace Go.Proofs.YtgffamdlnacamaaDoor
open Go.RowKit Go.ChangeShapes Go.WideShapes

theorem cellsDelims : Tryd.prog.cellsOf 25 = 5 := by kernel_rfl
set_option maxRecDepth 100000 in
theorem open_delims {H : Type} {enc : TypeId × Value → H} {W : World} {base : Nat} {v : Value} {d : DataW H} {p : List MemPlace} (ok : Value.okWide Tryd.prog W .any base 25 v)
    (h : DataW.Trod enc Tryd.prog W 0 (fun _ => true) true 25 v d p) : ∃ s : Sgn, v = s.v ∧ p = [] := by
  simp only [Value.okWide, Tryd.underlying25] at ok
  obtain ⟨cs, rfl, hsz, _⟩ := ok
  obtain ⟨fuel, hf⟩ := h
  obtain ⟨xs, m, _, hx, hl, hn, hi⟩ := DataW.trod_struct Tryd.underlying25 hf
  obtain ⟨l⟩ := cs
  simp only [Value.cells, Prod.mk.injEq] at hx hl hi
  have h0 := hi 0 _ rfl
  have h1 := hi 1 _ rfl
  have h2 := hi 2 _ rfl
  have h3 := hi 3 _ rfl
  have h4 := hi 4 _ rfl
  simp only [List.getElem_toArray, List.getElem_cons_zero, List.getElem_cons_succ, cellsByte] at h0 h1 h2 h3 h4
  rw [cellsDelims] at hl
  match xs, hn with
  | [x0, x1, x2, x3, x4], _ =>
    obtain ⟨n0, e0, rfl, w0⟩ := DataW.trod_int Tryd.underlying5 h0
    obtain ⟨n1, e1, rfl, w1⟩ := DataW.trod_int Tryd.underlying5 h1
    obtain ⟨n2, e2, rfl, w2⟩ := DataW.trod_int Tryd.underlying5 h2
    obtain ⟨n3, e3, rfl, w3⟩ := DataW.trod_int Tryd.underlying5 h3
    obtain ⟨n4, e4, rfl, w4⟩ := DataW.trod_int Tryd.underlying5 h4
    match l, hl with
    | [v0, v1, v2, v3, v4], _ =>
      simp at e0 e1 e2 e3 e4 hx
      obtain ⟨rfl, rfl⟩ := hx
      subst e0 e1 e2 e3 e4
      obtain ⟨b0, rfl⟩ := u8_of _ w0
      obtain ⟨b1, rfl⟩ := u8_of _ w1
      obtain ⟨b2, rfl⟩ := u8_of _ w2
      obtain ⟨b3, rfl⟩ := u8_of _ w3
      obtain ⟨b4, rfl⟩ := u8_of _ w4
      exact ⟨⟨b0, b1, b2, b3, b4⟩, rfl, rfl⟩
end Go.Proofs.YtgffamdlnacamaaDoor
