/- An argument that is a row of calls of a cursor. -/
import Derived.Test.YtolomfdommnklaaOpenStruct
namespace Go.Proofs.Ytolomfdommnklaa
open Go.RowKit Go.ChangeShapes Go.WideShapes Go.Deep

/-- a call of a cursor -/
structure CAct where
  kd : Int
  n : Int
  k : Int
/-- .. where it lies -/
def CActAt (w : World) (b o i : Nat) (x : CAct) : Prop :=
  w.cell? ⟨b, o + i * 3, none⟩ = some (.int .i64 x.kd) ∧ w.cell? ⟨b, o + i * 3 + 1, none⟩ = some (.int .i64 x.n) ∧ w.cell? ⟨b, o + i * 3 + 2, none⟩ = some (.int .i64 x.k)
structure CAct.Fits (x : CAct) : Prop where
  kd : -9223372036854775808 ≤ x.kd ∧ x.kd ≤ 9223372036854775807
  n : -9223372036854775808 ≤ x.n ∧ x.n ≤ 9223372036854775807
  k : -9223372036854775808 ≤ x.k ∧ x.k ≤ 9223372036854775807
def CAs (w : World) (A : Option Addr) (n c : Nat) (L : List CAct) : Prop :=
  L.length = n ∧ n ≤ c ∧ c ≤ maxLen ∧ n ≤ 140737488351232 ∧ (0 < n → ∃ b o, A = some ⟨b, o, none⟩ ∧ ∀ i x, L[i]? = some x → CActAt w b o i x ∧ x.Fits)
theorem CAs.below {w w' : World} {A : Option Addr} {n c : Nat} {L : List CAct} (h : CAs w A n c L) (hb : Below w.heap.size w w') : CAs w' A n c L :=
  ⟨h.1, h.2.1, h.2.2.1, h.2.2.2.1, fun hn => by
    obtain ⟨b, o, e, hc⟩ := h.2.2.2.2 hn
    refine ⟨b, o, e, fun i x hx => ?_⟩
    obtain ⟨⟨c0, c1, c2⟩, hf⟩ := hc i x hx
    have hl := World.block_lt_of_cell? w _ c0
    exact ⟨⟨(hb.cell (p := ⟨b, o + i * 3, none⟩) hl).trans c0, (hb.cell (p := ⟨b, o + i * 3 + 1, none⟩) hl).trans c1, (hb.cell (p := ⟨b, o + i * 3 + 2, none⟩) hl).trans c2⟩, hf⟩⟩
theorem i64_wfC {x : Int} (h : (Lit.int .i64 x).wf = true) : -9223372036854775808 ≤ x ∧ x ≤ 9223372036854775807 := by
  simpa [Lit.wf, IntKind.min, IntKind.max, IntKind.signed, IntKind.bits] using h
theorem cellsCAct : Try.prog.cellsOf 44 = 3 := by kernel_rfl
theorem bytesCAct : 1 ≤ Try.prog.bytesOf 44 := by decide +kernel
open Classical in
theorem open_cacts {H : Type} {enc : TypeId × Value → H} {W : World} {A : Option Addr} {len cap : Nat} {d : DataW H} {p : List MemPlace} {ts : List TypeId} {ds : List (DataW H)}
    (h : DataW.Trod enc Try.prog W 0 (fun _ => true) true 34 (.slice A len cap) d p) (j : Nat) (ht : ts[j]? = some 34) (hd : ds[j]? = some d)
    (hs : (DataW.weightsEach Try.prog ts ds).all (· ≤ reachBytes) = true) : ∃ L, CAs W A len cap L := by
  obtain ⟨h1, h2, h3, h4⟩ := open_structs Try.underlying34 Try.underlying44 (by kernel_rfl) cellsCAct h (light_arg hs ht hd) (by decide)
  have hb := bytesCAct
  have hlen : len ≤ 140737488351232 := by
    have := Nat.mul_le_mul_left len hb
    simp only [reachBytes] at h3
    omega
  rcases Nat.eq_zero_or_pos len with h0 | h0
  · exact ⟨[], by simp [h0], h1, h2, hlen, fun h => absurd h (by omega)⟩
  · obtain ⟨b, o, rfl, hc⟩ := h4 h0
    have key : ∀ i, ∃ x : CAct, i < len → CActAt W b o i x ∧ x.Fits := by
      intro i
      by_cases hi : i < len
      · obtain ⟨v0, y0, p0, n0, c0, t0, l0⟩ := hc i hi 0 _ rfl
        obtain ⟨v1, y1, p1, n1, c1, t1, l1⟩ := hc i hi 1 _ rfl
        obtain ⟨v2, y2, p2, n2, c2, t2, l2⟩ := hc i hi 2 _ rfl
        obtain ⟨x0, rfl, w0⟩ := field_int t0
        obtain ⟨x1, rfl, w1⟩ := field_int t1
        obtain ⟨x2, rfl, w2⟩ := field_int t2
        refine ⟨⟨x0, x1, x2⟩, fun _ => ⟨⟨?_, ?_, ?_⟩, ⟨i64_wfC w0, i64_wfC w1, i64_wfC w2⟩⟩⟩
        · exact c0
        · exact c1
        · exact c2
      · exact ⟨⟨0, 0, 0⟩, fun h => absurd h hi⟩
    refine ⟨(List.range len).map fun i => Classical.choose (key i), by simp, h1, h2, hlen, fun _ => ⟨b, o, rfl, fun i x hx => ?_⟩⟩
    rw [List.getElem?_map] at hx
    have hi : i < len := by
      rcases Nat.lt_or_ge i len with h | h
      · exact h
      · rw [List.getElem?_eq_none (by simpa using h)] at hx; cases hx
    rw [List.getElem?_range hi] at hx
    simp only [Option.map_some, Option.some.injEq] at hx
    subst hx
    exact Classical.choose_spec (key i) hi
end Go.Proofs.Ytolomfdommnklaa
