/- An argument that is an array of three bytes. -/
import Derived.Test.YtmambhopdbomfaaOpenSegs
namespace Go.Proofs.Ytmambhopdbomfaa
open Go.RowKit Go.ChangeShapes Go.WideShapes

/-- three bytes -/
structure Tri where
  a : UInt8
  b : UInt8
  c : UInt8
abbrev Tri.v (s : Tri) : Value := .agg #[.int .u8 (s.a.toNat : Int), .int .u8 (s.b.toNat : Int), .int .u8 (s.c.toNat : Int)]
theorem cellsArr3u8 : Try.prog.cellsOf 46 = 3 := by kernel_rfl
set_option maxRecDepth 100000 in
theorem open_arr3u8 {H : Type} {enc : TypeId × Value → H} {W : World} {base : Nat} {v : Value} {d : DataW H} {p : List MemPlace} (ok : Value.okWide Try.prog W .any base 46 v)
    (h : DataW.Trod enc Try.prog W 0 (fun _ => true) true 46 v d p) : ∃ s : Tri, v = s.v ∧ p = [] := by
  simp only [Value.okWide, Try.underlying46] at ok
  obtain ⟨cs, rfl, hsz, _⟩ := ok
  obtain ⟨fuel, hf⟩ := h
  obtain ⟨xs, m, _, hx, hl, hn, hi⟩ := DataW.trod_array Try.underlying46 hf
  obtain ⟨l⟩ := cs
  simp only [Value.cells, Prod.mk.injEq] at hx hl hi
  have h0 := hi 0 (by omega)
  have h1 := hi 1 (by omega)
  have h2 := hi 2 (by omega)
  rw [cellsByte] at h0 h1 h2
  rw [cellsArr3u8] at hl
  match xs, hn with
  | [x0, x1, x2], _ =>
    obtain ⟨n0, e0, rfl, w0⟩ := DataW.trod_int Try.underlying5 h0
    obtain ⟨n1, e1, rfl, w1⟩ := DataW.trod_int Try.underlying5 h1
    obtain ⟨n2, e2, rfl, w2⟩ := DataW.trod_int Try.underlying5 h2
    match l, hl with
    | [v0, v1, v2], _ =>
      simp at e0 e1 e2 hx
      obtain ⟨rfl, rfl⟩ := hx
      subst e0 e1 e2
      obtain ⟨b0, rfl⟩ := u8_of _ w0
      obtain ⟨b1, rfl⟩ := u8_of _ w1
      obtain ⟨b2, rfl⟩ := u8_of _ w2
      exact ⟨⟨b0, b1, b2⟩, rfl, rfl⟩
end Go.Proofs.Ytmambhopdbomfaa
