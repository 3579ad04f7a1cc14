/- An argument that is a slice of slices of texts. -/
import Derived.Test.YtmambhopdbomfaaOpenSegs
import Derived.Test.YtmambhopdbomfaaNest1
namespace Go.Proofs.Ytmambhopdbomfaa
open Go.RowKit Go.ChangeShapes Go.WideShapes

theorem cellsStrs : Try.prog.cellsOf 23 = 1 := by kernel_rfl
theorem bulk_snoc {H : Type} : ∀ (a : List (DataW H)) (d : DataW H), Rows.uptoBulkAll (a ++ [d]) = Rows.uptoBulkAll a + Rows.uptoBulk d
  | [], d => by simp [Rows.uptoBulkAll]
  | x :: r, d => by
    have := bulk_snoc r d
    simp only [List.cons_append, Rows.uptoBulkAll, this]
    omega
theorem open_strs1 {H : Type} {enc : TypeId × Value → H} {W : World} {fuel : Nat} {cs : List Value} {x : DataW H × List MemPlace}
    (hf : DataW.trod enc Try.prog W 0 (fun _ => true) true fuel 23 cs = some x) : ∃ A T c, cs = [.slice A T.length c] ∧ Ss W A T.length c T ∧ gT T + 1 ≤ Rows.uptoBulk x.1 := by
  rcases open_strings Try.underlying23 Try.underlying9 cellsStr hf with ⟨hcs, hx⟩ | ⟨a, l, c, ss, hcs, _, hl, hm, hz, hx, hcell, _⟩
  · subst hx
    exact ⟨none, [], 0, hcs, Ss.nil W 0 none (by simp [maxLen]), by simp [gT, Lib.lens, Rows.uptoBulk]⟩
  · subst hx
    simp only [if_true] at hz
    have hlen : (ss.take l).length = l := by rw [List.length_take]; omega
    refine ⟨some a, (ss.take l).map (·.data.toList), c, by rw [List.length_map, hlen]; exact hcs, ⟨rfl, by rw [List.length_map, hlen]; exact hl, hm, fun hn => ?_⟩, ?_⟩
    · rw [List.length_map, hlen] at hn
      have h0 := hcell 0 (by omega)
      obtain ⟨b, off, spot⟩ := a
      have hspot : spot = none := by simpa [Addr.add] using World.cell?_spot h0
      subst hspot
      refine ⟨b, off, rfl, fun i y hy => ?_⟩
      rw [List.getElem?_map, List.getElem?_take] at hy
      split at hy
      · rename_i hi
        have hiz : i < ss.length := by omega
        rw [List.getElem?_eq_getElem hiz] at hy
        simp only [Option.map_some, Option.some.injEq] at hy
        subst hy
        have hc := hcell i hiz
        rw [Addr.add_lit] at hc
        rw [hc]
        simp only [List.getD, List.getElem?_eq_getElem hiz, Option.getD_some]
      · cases hy
    · simp only [Rows.uptoBulk]
      rw [bulk_strs]
      simp only [gT, List.length_map]
      omega
theorem open_strss {H : Type} {enc : TypeId × Value → H} {W : World} {A : Option Addr} {len cap : Nat} {d : DataW H} {p : List MemPlace}
    (h : DataW.Trod enc Try.prog W 0 (fun _ => true) true 52 (.slice A len cap) d p) : ∃ R, Sss W A len cap R ∧ bulkR R + R.length ≤ Rows.uptoBulk d := by
  obtain ⟨fuel, hf⟩ := h
  rcases DataW.trod_slice Try.underlying52 hf with ⟨hcs, hx⟩ | ⟨a, l, c, elems, rest, n, rfl, hcs, hx, _, hl, hm, hlen, hel, _, _⟩
  · simp [Value.cells] at hcs
    obtain ⟨rfl, rfl, rfl⟩ := hcs
    exact ⟨[], ⟨rfl, by omega, by simp [maxLen], fun h => absurd h (by omega)⟩, by simp [bulkR]⟩
  · simp [Value.cells] at hcs
    obtain ⟨rfl, rfl, rfl⟩ := hcs
    simp only [Prod.mk.injEq] at hx
    obtain ⟨rfl, _⟩ := hx
    have each : ∀ i, i < len → ∃ y Ai T ci, elems[i]? = some y ∧ W.cell? (a.add i) = some (.slice Ai T.length ci) ∧ Ss W Ai T.length ci T ∧ gT T + 1 ≤ Rows.uptoBulk y.1 := by
      intro i hi
      have hb := hel i hi
      obtain ⟨y, hy⟩ : ∃ y, elems[i]? = some y := ⟨elems[i]'(by omega), List.getElem?_eq_getElem (by omega)⟩
      rw [hy, cellsStrs, Nat.mul_one, Option.bind_eq_some_iff] at hb
      obtain ⟨cs', hcs, hy'⟩ := hb
      obtain ⟨Ai, T, ci, rfl, h1, h2⟩ := open_strs1 hy'
      exact ⟨y, Ai, T, ci, hy, cell_of_cells?_one hcs, h1, h2⟩
    have all : ∀ k, k ≤ len → ∃ R : List (List (List UInt8)), R.length = k ∧ (∀ i T, R[i]? = some T → ∃ Ai ci, W.cell? (a.add i) = some (.slice Ai T.length ci) ∧ Ss W Ai T.length ci T) ∧ bulkR R + R.length ≤ Rows.uptoBulkAll ((elems.map (·.1)).take k) := by
      intro k
      induction k with
      | zero => intro _; exact ⟨[], rfl, fun i T h => by simp at h, by simp [bulkR]⟩
      | succ k ih =>
        intro hk
        obtain ⟨R, h1, h2, h3⟩ := ih (by omega)
        obtain ⟨y, Ai, T, ci, hy, hc, hS, hb⟩ := each k (by omega)
        refine ⟨R ++ [T], by simp [h1], fun i S hS2 => ?_, ?_⟩
        · by_cases hik : i < R.length
          · rw [List.getElem?_append_left hik] at hS2
            exact h2 i S hS2
          · have hie : i = R.length := by
              have := (List.getElem?_eq_some_iff.1 hS2).1
              simp at this
              omega
            subst hie
            simp at hS2
            subst hS2
            rw [h1]
            exact ⟨Ai, ci, hc, hS⟩
        · have e : (elems.map (·.1)).take (k + 1) = (elems.map (·.1)).take k ++ [y.1] := by
            rw [List.take_add_one, List.getElem?_map, hy]
            rfl
          rw [e, bulk_snoc, bulkR_snoc, List.length_append]
          simp only [List.length_cons, List.length_nil]
          omega
    obtain ⟨R, h1, h2, h3⟩ := all len (Nat.le_refl _)
    rw [List.take_of_length_le (by rw [List.length_map]; omega)] at h3
    refine ⟨R, ⟨h1, hl, hm, fun hn => ?_⟩, ?_⟩
    · obtain ⟨_, _, _, _, _, h0, _, _⟩ := each 0 hn
      obtain ⟨b, off, spot⟩ := a
      have hspot : spot = none := by simpa [Addr.add] using World.cell?_spot h0
      subst hspot
      refine ⟨b, off, rfl, World.block_lt_of_cell? W _ h0, fun i T hi => ?_⟩
      obtain ⟨Ai, ci, k1, k2⟩ := h2 i T hi
      rw [Addr.add_lit] at k1
      exact ⟨Ai, ci, k1, k2⟩
    · simp only [Rows.uptoBulk]
      omega
end Go.Proofs.Ytmambhopdbomfaa
