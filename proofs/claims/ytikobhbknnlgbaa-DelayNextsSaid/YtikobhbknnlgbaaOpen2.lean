/- An argument that is an array of two integers. -/
import Derived.ProofKit
import Derived.OpenShut
import Derived.Test.YtikobhbknnlgbaaBase
import Derived.ShutString
import Derived.ChangeOld
import Derived.SizedLaws
import Derived.Deep.DeepHandedRow
namespace Go.Proofs.Ytikobhbknnlgbaa
open Go.RowKit Go.ChangeShapes Go.WideShapes

theorem own : ownKnob Try.prog.godebug = none := by kernel_rfl
theorem laidOut : laidOutB Try.prog = true := by kernel_rfl
theorem cellsInt : Try.prog.cellsOf 3 = 1 := by kernel_rfl
theorem cellsArr2 : Try.prog.cellsOf 51 = 2 := by kernel_rfl

theorem open_arr2 {H : Type} {enc : TypeId × Value → H} {W : World} {base : Nat} {v : Value} {d : DataW H} {p : List MemPlace} (ok : Value.okWide Try.prog W .any base 51 v)
    (h : DataW.Trod enc Try.prog W 0 (fun _ => true) true 51 v d p) : ∃ a b : Int, v = .agg #[.int .i64 a, .int .i64 b] ∧ d = .agg [.lit (.int .i64 a), .lit (.int .i64 b)] ∧ p = [] := by
  simp only [Value.okWide, Try.underlying51] at ok
  obtain ⟨cs, rfl, hsz, _⟩ := ok
  obtain ⟨fuel, hf⟩ := h
  obtain ⟨xs, m, rfl, hx, hl, hn, hi⟩ := DataW.trod_array Try.underlying51 hf
  obtain ⟨l⟩ := cs
  simp only [Value.cells, Prod.mk.injEq] at hx hl hi
  have h0 := hi 0 (by omega)
  have h1 := hi 1 (by omega)
  rw [cellsInt] at h0 h1
  rw [cellsArr2] at hl
  match xs, hn with
  | [x0, x1], _ =>
    obtain ⟨n0, e0, rfl, _⟩ := DataW.trod_int Try.underlying3 h0
    obtain ⟨n1, e1, rfl, _⟩ := DataW.trod_int Try.underlying3 h1
    match l, hl with
    | [v0, v1], _ =>
      simp at e0 e1 hx
      obtain ⟨rfl, rfl⟩ := hx
      subst e0 e1
      exact ⟨n0, n1, rfl, rfl, rfl⟩
end Go.Proofs.Ytikobhbknnlgbaa
