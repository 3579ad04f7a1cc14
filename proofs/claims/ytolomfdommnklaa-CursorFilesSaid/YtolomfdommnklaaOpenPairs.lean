/- An argument that is a row of pairs of numbers. -/
import Derived.Test.YtolomfdommnklaaOpenStruct
import Derived.OpenShut
namespace Go.Proofs.Ytolomfdommnklaa
open Go.RowKit Go.ChangeShapes Go.WideShapes Go.Deep

/-- the slice '.slice A n c' reads as the pairs L -/
def Ps2 (w : World) (A : Option Addr) (n c : Nat) (L : List (Int × Int)) : Prop :=
  L.length = n ∧ n ≤ c ∧ c ≤ maxLen ∧ n ≤ 140737488351232 ∧ (0 < n → ∃ b o, A = some ⟨b, o, none⟩ ∧ ∀ i x, L[i]? = some x → w.cell? ⟨b, o + i * 2, none⟩ = some (.int .i64 x.1) ∧ w.cell? ⟨b, o + i * 2 + 1, none⟩ = some (.int .i64 x.2))
theorem Ps2.below {w w' : World} {A : Option Addr} {n c : Nat} {L : List (Int × Int)} (h : Ps2 w A n c L) (hb : Below w.heap.size w w') : Ps2 w' A n c L :=
  ⟨h.1, h.2.1, h.2.2.1, h.2.2.2.1, fun hn => by
    obtain ⟨b, o, e, hc⟩ := h.2.2.2.2 hn
    refine ⟨b, o, e, fun i x hx => ?_⟩
    obtain ⟨c0, c1⟩ := hc i x hx
    have hl := World.block_lt_of_cell? w _ c0
    exact ⟨(hb.cell (p := ⟨b, o + i * 2, none⟩) hl).trans c0, (hb.cell (p := ⟨b, o + i * 2 + 1, none⟩) hl).trans c1⟩⟩
theorem cellsArr2 : Try.prog.cellsOf 70 = 2 := by kernel_rfl
theorem cellsInt1 : Try.prog.cellsOf 3 = 1 := by kernel_rfl
theorem bytesArr2 : 1 ≤ Try.prog.bytesOf 70 := by decide +kernel
open Classical in
theorem open_pairs {H : Type} {enc : TypeId × Value → H} {W : World} {A : Option Addr} {len cap : Nat} {d : DataW H} {p : List MemPlace} {ts : List TypeId} {ds : List (DataW H)}
    (h : DataW.Trod enc Try.prog W 0 (fun _ => true) true 68 (.slice A len cap) d p) (j : Nat) (ht : ts[j]? = some 68) (hd : ds[j]? = some d)
    (hs : (DataW.weightsEach Try.prog ts ds).all (· ≤ reachBytes) = true) : ∃ L, Ps2 W A len cap L := by
  have hw := light_arg hs ht hd
  obtain ⟨fuel, hf⟩ := h
  rcases open_slice Try.underlying68 hf with ⟨hcs, hx⟩ | ⟨a, l, c, m, n, D, Pl, hcs, _, hl, hm, hmm, hx, hi⟩
  · simp [Value.cells] at hcs
    obtain ⟨rfl, rfl, rfl⟩ := hcs
    exact ⟨[], rfl, Nat.le_refl _, by simp [maxLen], by omega, fun h0 => by omega⟩
  · simp [Value.cells] at hcs
    obtain ⟨rfl, rfl, rfl⟩ := hcs
    simp only [Prod.mk.injEq] at hx
    obtain ⟨rfl, _⟩ := hx
    have hlm : len ≤ m := by rw [hmm]; split <;> omega
    have hreach : len * Try.prog.bytesOf 70 ≤ reachBytes := by
      have h1 := hw (((List.range len).map D).length * Try.prog.bytesOf 70 + ((List.range (m - len)).map fun j => D (len + j)).length * Try.prog.bytesOf 70) (by
        simp only [DataW.weights, Try.underlying68, List.mem_cons]
        exact .inl (by rw [Nat.add_mul]))
      simp only [List.length_map, List.length_range] at h1
      omega
    have hlen : len ≤ 140737488351232 := by
      have := Nat.mul_le_mul_left len bytesArr2
      simp only [reachBytes] at hreach
      omega
    have cellAt : ∀ i, i < len → ∃ x y : Int, W.cell? (a.add (i * 2)) = some (.int .i64 x) ∧ W.cell? (a.add (i * 2 + 1)) = some (.int .i64 y) := by
      intro i hil
      obtain ⟨cs', hc, ht'⟩ := hi i (by omega)
      rw [cellsArr2] at hc
      obtain ⟨ys, n', _, hy, hl2, hyl, hg⟩ := DataW.trod_array Try.underlying70 ht'
      obtain ⟨_, hcl, hat⟩ := World.cells?_some hc
      rw [cellsInt1] at hg
      have g0 := hg 0 (by omega)
      have g1 := hg 1 (by omega)
      match ys, hyl with
      | [y0, y1], _ =>
        match cs', hcl with
        | [v0, v1], _ =>
          simp only [Nat.zero_mul, List.drop_zero, List.take_succ_cons, List.take_zero, Nat.one_mul, List.drop_succ_cons, List.getElem?_cons_zero, List.getElem?_cons_succ] at g0 g1
          obtain ⟨x0, e0, _, _⟩ := DataW.trod_int Try.underlying3 g0
          obtain ⟨x1, e1, _, _⟩ := DataW.trod_int Try.underlying3 g1
          have q0 := hat 0 (by omega)
          have q1 := hat 1 (by omega)
          simp only [List.cons.injEq, and_true] at e0 e1
          subst e0 e1
          rw [Go.Deep.add_add, Nat.add_zero] at q0
          rw [Go.Deep.add_add] at q1
          exact ⟨x0, x1, by simpa using q0, by simpa using q1⟩
    rcases Nat.eq_zero_or_pos len with h0 | h0
    · exact ⟨[], by simp [h0], hl, hm, hlen, fun h => absurd h (by omega)⟩
    · have hspot : ∃ b o, a = ⟨b, o, none⟩ := by
        obtain ⟨b, o, s⟩ := a
        obtain ⟨x, y, hc, _⟩ := cellAt 0 h0
        have : s = none := by simpa [Addr.add] using World.cell?_spot hc
        subst this
        exact ⟨b, o, rfl⟩
      obtain ⟨b, o, rfl⟩ := hspot
      have key : ∀ i, ∃ x : Int × Int, i < len → W.cell? ⟨b, o + i * 2, none⟩ = some (.int .i64 x.1) ∧ W.cell? ⟨b, o + i * 2 + 1, none⟩ = some (.int .i64 x.2) := by
        intro i
        by_cases hil : i < len
        · obtain ⟨x, y, h1, h2⟩ := cellAt i hil
          rw [Addr.add_lit] at h1 h2
          exact ⟨(x, y), fun _ => ⟨h1, by rw [Nat.add_assoc]; exact h2⟩⟩
        · exact ⟨(0, 0), fun h => absurd h hil⟩
      refine ⟨(List.range len).map fun i => Classical.choose (key i), by simp, hl, hm, hlen, fun _ => ⟨b, o, rfl, fun i x hx => ?_⟩⟩
      rw [List.getElem?_map] at hx
      have hi2 : i < len := by
        rcases Nat.lt_or_ge i len with h | h
        · exact h
        · rw [List.getElem?_eq_none (by simpa using h)] at hx; cases hx
      rw [List.getElem?_range hi2] at hx
      simp only [Option.map_some, Option.some.injEq] at hx
      subst hx
      exact Classical.choose_spec (key i) hi2
end Go.Proofs.Ytolomfdommnklaa
