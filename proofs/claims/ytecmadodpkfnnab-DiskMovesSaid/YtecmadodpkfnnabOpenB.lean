/- An argument that is an array of two booleans. -/
import Derived.Test.YtecmadodpkfnnabOpen
namespace Go.Proofs.Ytecmadodpkfnnab
open Go.RowKit Go.ChangeShapes Go.WideShapes

theorem cellsBool : Try.prog.cellsOf 4 = 1 := by kernel_rfl
theorem cellsArr2b : Try.prog.cellsOf 54 = 2 := by kernel_rfl
theorem open_arr2b {H : Type} {enc : TypeId × Value → H} {W : World} {base : Nat} {v : Value} {d : DataW H} {p : List MemPlace} (ok : Value.okWide Try.prog W .any base 54 v)
    (h : DataW.Trod enc Try.prog W 0 (fun _ => true) true 54 v d p) : ∃ a b : Bool, v = .agg #[.bool a, .bool b] ∧ d = .agg [.lit (.bool a), .lit (.bool b)] ∧ p = [] := by
  simp only [Value.okWide, Try.underlying54] at ok
  obtain ⟨cs, rfl, hsz, _⟩ := ok
  obtain ⟨fuel, hf⟩ := h
  obtain ⟨xs, m, rfl, hx, hl, hn, hi⟩ := DataW.trod_array Try.underlying54 hf
  obtain ⟨l⟩ := cs
  simp only [Value.cells, Prod.mk.injEq] at hx hl hi
  have h0 := hi 0 (by omega)
  have h1 := hi 1 (by omega)
  rw [cellsBool] at h0 h1
  rw [cellsArr2b] at hl
  match xs, hn with
  | [x0, x1], _ =>
    obtain ⟨n0, e0, rfl⟩ := DataW.trod_bool Try.underlying4 h0
    obtain ⟨n1, e1, rfl⟩ := DataW.trod_bool Try.underlying4 h1
    match l, hl with
    | [v0, v1], _ =>
      simp at e0 e1 hx
      obtain ⟨rfl, rfl⟩ := hx
      subst e0 e1
      exact ⟨n0, n1, rfl, rfl, rfl⟩
end Go.Proofs.Ytecmadodpkfnnab
