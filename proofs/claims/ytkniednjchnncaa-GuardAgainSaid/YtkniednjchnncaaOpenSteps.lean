/- An argument that is a row of steps. -/
import Derived.Test.YtkniednjchnncaaOpen0
import Derived.Test.YtkniednjchnncaaGuardSteps
import Derived.Deep.SlicePairs
namespace Go.Proofs.Ytkniednjchnncaa
open Go.RowKit Go.ChangeShapes Go.WideShapes

theorem cellsStep : Try.prog.cellsOf 35 = 2 := by kernel_rfl

theorem open_steps {H : Type} {enc : TypeId × Value → H} {W : World} {A : Option Addr} {len cap : Nat} {d : DataW H} {p : List MemPlace}
    (h : DataW.Trod enc Try.prog W 0 (fun _ => true) true 32 (.slice A len cap) d p) : ∃ L, Ps W A len cap L := by
  obtain ⟨fuel, hf⟩ := h
  rcases Deep.open_slice_pairs Try.underlying32 Try.underlying35 cellsStep rfl rfl (by kernel_rfl) (by kernel_rfl) hf with ⟨hcs, _⟩ | ⟨a, l, c, m, n, V0, V1, D0, D1, P0, P1, hcs, _, hl, hm, hmm, _, hx⟩
  · simp [Value.cells] at hcs
    obtain ⟨rfl, rfl, rfl⟩ := hcs
    exact ⟨[], rfl, by omega, by simp [maxLen], fun h0 => absurd h0 (by omega), fun q hq => by cases hq⟩
  · simp [Value.cells] at hcs
    obtain ⟨rfl, rfl, rfl⟩ := hcs
    simp only [if_true] at hmm
    subst hmm
    have hint : ∀ i, i < len → (V0 i = .int .i64 (intOf (V0 i)) ∧ (Lit.int .i64 (intOf (V0 i))).wf = true) ∧ (V1 i = .int .i64 (intOf (V1 i)) ∧ (Lit.int .i64 (intOf (V1 i))).wf = true) := by
      intro i hi
      obtain ⟨_, _, h0, h1⟩ := hx i (by omega)
      obtain ⟨n0, e0, _, w0⟩ := DataW.trod_int Try.underlying3 h0
      obtain ⟨n1, e1, _, w1⟩ := DataW.trod_int Try.underlying3 h1
      simp only [List.cons.injEq, and_true] at e0 e1
      rw [e0, e1]
      exact ⟨⟨rfl, w0⟩, ⟨rfl, w1⟩⟩
    refine ⟨(List.range len).map fun i => (intOf (V0 i), intOf (V1 i)), by simp, hl, hm, fun h0 => ?_, fun q hq => ?_⟩
    · obtain ⟨b, off, spot⟩ := a
      have hspot : spot = none := by
        have := (hx 0 (by omega)).1
        simpa [Addr.add] using World.cell?_spot this
      subst hspot
      refine ⟨b, off, rfl, fun i q hq => ?_⟩
      rw [List.getElem?_map] at hq
      have hi : i < len := by
        rcases Nat.lt_or_ge i len with h | h
        · exact h
        · rw [List.getElem?_eq_none (by simpa using h)] at hq
          cases hq
      rw [List.getElem?_eq_getElem (by simpa using hi), Option.map_some, List.getElem_range] at hq
      obtain rfl := Option.some.inj hq
      obtain ⟨c0, c1, _, _⟩ := hx i (by omega)
      rw [Addr.add_lit] at c0 c1
      rw [c0, (hint i hi).1.1] 
      refine ⟨rfl, ?_⟩
      rw [Nat.add_assoc, c1]
      exact congrArg some (hint i hi).2.1
    · obtain ⟨i, hi, rfl⟩ := List.mem_map.1 hq
      have := hint i (List.mem_range.1 hi)
      exact ⟨this.1.2, this.2.2⟩
end Go.Proofs.Ytkniednjchnncaa
