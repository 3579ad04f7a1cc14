/- An argument that is a slice of slices of bytes. -/
import Derived.Test.YthblbmbefhlbjaaOpen
import Derived.Test.YthblbmbefhlbjaaRowsG
import Derived.Deep.Matrix
namespace Go.Proofs.Ythblbmbefhlbjaa
open Go.RowKit Go.ChangeShapes Go.WideShapes Go.Deep

theorem cellsRow : Try.prog.cellsOf 27 = 1 := by kernel_rfl
theorem weights_all {H : Type} {P : Program} {e : TypeId} {y : Nat} : ∀ {ds : List (DataW H)} {d : DataW H}, d ∈ ds → y ∈ d.weights P e → y ∈ DataW.weightsAll P e ds
  | [], _, h, _ => by cases h
  | d0 :: r, d, h, hy => by
    simp only [DataW.weightsAll, List.mem_append]
    rcases List.mem_cons.1 h with rfl | h
    · exact .inl hy
    · exact .inr (weights_all h hy)
theorem open_rows {H : Type} {enc : TypeId × Value → H} {W : World} {A : Option Addr} {len cap : Nat} {d : DataW H} {p : List MemPlace} {ts : List TypeId} {ds : List (DataW H)}
    (h : DataW.Trod enc Try.prog W 0 (fun _ => true) true 47 (.slice A len cap) d p) (j : Nat) (ht : ts[j]? = some 47) (hd : ds[j]? = some d)
    (hs : (DataW.weightsEach Try.prog ts ds).all (· ≤ reachBytes) = true) : ∃ L, Rd W A len cap L ∧ ∀ x ∈ L, x.length ≤ 140737488351232 := by
  obtain ⟨fuel, hf⟩ := h
  rcases open_int_rows Try.underlying47 Try.underlying27 Try.underlying5 cellsRow cellsByte hf with ⟨hcs, _⟩ | ⟨a, l, c, A', L, C, Z, hcs, _, hl, hm, hx, hcell⟩
  · simp [Value.cells] at hcs
    obtain ⟨rfl, rfl, rfl⟩ := hcs
    exact ⟨[], ⟨rfl, by omega, by simp [maxLen], fun h => by omega⟩, by simp⟩
  · simp [Value.cells] at hcs
    obtain ⟨rfl, rfl, rfl⟩ := hcs
    simp only [Prod.mk.injEq] at hx
    obtain ⟨rfl, _⟩ := hx
    have hrow : ∀ r, r < len → Bs W (A' r) (L r) (C r) (((Z r).take (L r)).map fun z => UInt8.ofNat z.toNat) ∧ C r ≤ 140737488351232 := by
      intro r hr
      obtain ⟨_, h2, h3, h4, h5, h6, h7⟩ := hcell r (by omega)
      have hcap : C r ≤ 140737488351232 := by
        cases hA : A' r with
        | none => have := h6 hA; omega
        | some a' =>
          have hw : ((Z r).take (L r)).length * 1 + ((Z r).drop (L r)).length * 1 ≤ reachBytes := by
            have hmem : (((lits (H := H) .u8 ((Z r).take (L r))).length + (lits (H := H) .u8 ((Z r).drop (L r))).length) * Try.prog.bytesOf 5) ∈ (DataW.slice ((List.range len).map fun r => intRow (H := H) .u8 (A' r) (L r) (Z r)) ((List.range (cap - len)).map fun j => intRow (H := H) .u8 (A' (len + j)) (L (len + j)) (Z (len + j)))).weights Try.prog 47 := by
              simp only [DataW.weights, Try.underlying47, List.mem_cons, List.mem_append]
              refine .inr (.inl (weights_all (List.mem_map.2 ⟨r, List.mem_range.2 hr, rfl⟩) ?_))
              rw [hA]
              simp only [intRow, DataW.weights, Try.underlying27, List.mem_cons]
              exact .inl trivial
            have := List.all_eq_true.1 hs _ (DataW.weights_mem_each ht hd _ hmem)
            rw [bytesByte] at this
            simp only [lits, List.length_map, decide_eq_true_eq] at this
            omega
          simp only [List.length_take, List.length_drop, reachBytes] at hw
          omega
      refine ⟨⟨by rw [List.length_map, List.length_take]; omega, h2, h3, fun hn => ?_⟩, hcap⟩
      obtain ⟨a', hA⟩ : ∃ a', A' r = some a' := by
        cases hA : A' r with
        | none => have := h6 hA; omega
        | some a' => exact ⟨a', rfl⟩
      obtain ⟨_, h8⟩ := h7 a' hA
      rw [hA]
      have h0 := h8 0 (by omega)
      obtain ⟨b, off, spot⟩ := a'
      have hspot : spot = none := by simpa [Addr.add] using World.cell?_spot h0
      subst hspot
      refine ⟨b, off, rfl, fun i y hy => ?_⟩
      rw [List.getElem?_map, List.getElem?_take] at hy
      split at hy
      · have hiz : i < (Z r).length := by omega
        rw [List.getElem?_eq_getElem hiz] at hy
        simp only [Option.map_some, Option.some.injEq] at hy
        subst hy
        have hc := h8 i (by omega)
        rw [Addr.add_lit] at hc
        rw [hc]
        simp only [List.getD, List.getElem?_eq_getElem hiz, Option.getD_some]
        show _ = some (Value.int IntKind.u8 _)
        rw [byte_back (h5 _ (List.getElem_mem hiz))]
      · cases hy
    refine ⟨(List.range len).map fun r => ((Z r).take (L r)).map fun z => UInt8.ofNat z.toNat, ⟨by simp, hl, hm, fun hn => ?_⟩, fun x hx => ?_⟩
    · have h0 := (hcell 0 (by omega)).1
      obtain ⟨b, off, spot⟩ := a
      have hspot : spot = none := by simpa [Addr.add] using World.cell?_spot h0
      subst hspot
      refine ⟨b, off, rfl, World.block_lt_of_cell? W _ h0, fun i x hi => ?_⟩
      rw [List.getElem?_map] at hi
      have hil : i < len := by
        rcases Nat.lt_or_ge i len with h | h
        · exact h
        · rw [List.getElem?_eq_none (by simpa using h)] at hi; cases hi
      rw [List.getElem?_range hil] at hi
      simp only [Option.map_some, Option.some.injEq] at hi
      subst hi
      have hb := (hrow i hil).1
      have hlen : (((Z i).take (L i)).map fun z => UInt8.ofNat z.toNat).length = L i := hb.1
      refine ⟨A' i, C i, ?_, by rw [hlen]; exact hb⟩
      have := (hcell i (by omega)).1
      rw [Addr.add_lit] at this
      rw [this, hlen]
    · obtain ⟨r, hr, rfl⟩ := List.mem_map.1 hx
      have := hrow r (List.mem_range.1 hr)
      have h1 := this.1.1
      have h2 := this.1.2.1
      omega
end Go.Proofs.Ythblbmbefhlbjaa
