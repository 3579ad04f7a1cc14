/- An argument that is an array of three integers. -/
import Derived.Test.YtcdkcaahmjchjaaOpen
namespace Go.Proofs.Ytcdkcaahmjchjaa
open Go.RowKit Go.ChangeShapes Go.WideShapes

theorem cellsInt : Try.prog.cellsOf 3 = 1 := by kernel_rfl
theorem cellsArr3 : Try.prog.cellsOf 22 = 3 := by kernel_rfl

theorem open_arr3 {H : Type} {enc : TypeId × Value → H} {W : World} {base : Nat} {v : Value} {d : DataW H} {p : List MemPlace} (ok : Value.okWide Try.prog W .any base 22 v)
    (h : DataW.Trod enc Try.prog W 0 (fun _ => true) true 22 v d p) : ∃ a b c : Int, v = .agg #[.int .i64 a, .int .i64 b, .int .i64 c] ∧ d = .agg [.lit (.int .i64 a), .lit (.int .i64 b), .lit (.int .i64 c)] ∧ p = [] := by
  simp only [Value.okWide, Try.underlying22] at ok
  obtain ⟨cs, rfl, hsz, _⟩ := ok
  obtain ⟨fuel, hf⟩ := h
  obtain ⟨xs, m, rfl, hx, hl, hn, hi⟩ := DataW.trod_array Try.underlying22 hf
  obtain ⟨l⟩ := cs
  simp only [Value.cells, Prod.mk.injEq] at hx hl hi
  have h0 := hi 0 (by omega)
  have h1 := hi 1 (by omega)
  have h2 := hi 2 (by omega)
  rw [cellsInt] at h0 h1 h2
  rw [cellsArr3] at hl
  match xs, hn with
  | [x0, x1, x2], _ =>
    obtain ⟨n0, e0, rfl, _⟩ := DataW.trod_int Try.underlying3 h0
    obtain ⟨n1, e1, rfl, _⟩ := DataW.trod_int Try.underlying3 h1
    obtain ⟨n2, e2, rfl, _⟩ := DataW.trod_int Try.underlying3 h2
    match l, hl with
    | [v0, v1, v2], _ =>
      simp at e0 e1 e2 hx
      obtain ⟨rfl, rfl⟩ := hx
      subst e0 e1 e2
      exact ⟨n0, n1, n2, rfl, rfl, rfl⟩

theorem cellsArr2u8 : Try.prog.cellsOf 49 = 2 := by kernel_rfl
theorem open_arr2u8 {H : Type} {enc : TypeId × Value → H} {W : World} {base : Nat} {v : Value} {d : DataW H} {p : List MemPlace} (ok : Value.okWide Try.prog W .any base 49 v)
    (h : DataW.Trod enc Try.prog W 0 (fun _ => true) true 49 v d p) : ∃ a b : Int, v = .agg #[.int .u8 a, .int .u8 b] ∧ d = .agg [.lit (.int .u8 a), .lit (.int .u8 b)] ∧ p = [] ∧ (Lit.int .u8 a).wf = true ∧ (Lit.int .u8 b).wf = true := by
  simp only [Value.okWide, Try.underlying49] at ok
  obtain ⟨cs, rfl, hsz, _⟩ := ok
  obtain ⟨fuel, hf⟩ := h
  obtain ⟨xs, m, rfl, hx, hl, hn, hi⟩ := DataW.trod_array Try.underlying49 hf
  obtain ⟨l⟩ := cs
  simp only [Value.cells, Prod.mk.injEq] at hx hl hi
  have h0 := hi 0 (by omega)
  have h1 := hi 1 (by omega)
  rw [cellsByte] at h0 h1
  rw [cellsArr2u8] at hl
  match xs, hn with
  | [x0, x1], _ =>
    obtain ⟨n0, e0, rfl, w0⟩ := DataW.trod_int Try.underlying5 h0
    obtain ⟨n1, e1, rfl, w1⟩ := DataW.trod_int Try.underlying5 h1
    match l, hl with
    | [v0, v1], _ =>
      simp at e0 e1 hx
      obtain ⟨rfl, rfl⟩ := hx
      subst e0 e1
      exact ⟨n0, n1, rfl, rfl, rfl, w0, w1⟩
end Go.Proofs.Ytcdkcaahmjchjaa
