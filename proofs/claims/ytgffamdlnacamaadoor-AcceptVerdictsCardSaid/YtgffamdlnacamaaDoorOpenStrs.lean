/- Arguments that are texts, bytes and slices of texts; what the second form's bound says of them. -/
import Derived.Test.YtgffamdlnacamaaDoorOpen
import Derived.Test.YtgffamdlnacamaaDoorStrs
import Derived.SliceStrings
namespace Go.Proofs.YtgffamdlnacamaaDoor
open Go.RowKit Go.ChangeShapes Go.WideShapes

theorem u8_of_wf {y : Int} (h : (Lit.int .u8 y).wf = true) : ∃ x : UInt8, y = (x.toNat : Int) := ⟨UInt8.ofNat y.toNat, (byte_back h).symm⟩
theorem bulk_string {H : Type} (l : List UInt8) : Rows.uptoBulk (.lit (.string l) : DataW H) = l.length + 1 := by simp [Rows.uptoBulk]
theorem bulk_one {H : Type} (d : DataW H) : 1 ≤ Rows.uptoBulk d := by
  cases d with
  | lit l => cases l <;> simp [Rows.uptoBulk]
  | nil => simp [Rows.uptoBulk]
  | ptr d => simp [Rows.uptoBulk]
  | slice a b => simp [Rows.uptoBulk]
  | agg a => simp [Rows.uptoBulk]
  | iface t d => simp [Rows.uptoBulk]
  | map e => simp [Rows.uptoBulk]
  | held x => simp [Rows.uptoBulk]
theorem bulk_strs {H : Type} : ∀ ss : List ByteArray, Rows.uptoBulkAll (strs ss : List (DataW H)) = Lib.lens (ss.map (·.data.toList)) + ss.length
  | [] => by simp [strs, Rows.uptoBulkAll, Lib.lens]
  | s :: r => by
    have ih := bulk_strs (H := H) r
    simp only [strs, Lib.lens] at ih ⊢
    simp only [List.map_cons, Rows.uptoBulkAll, List.sum_cons, List.length_cons, bulk_string]
    rw [ih]
    omega
theorem cellsStr : Tryd.prog.cellsOf 9 = 1 := by kernel_rfl
theorem open_strs {H : Type} {enc : TypeId × Value → H} {W : World} {A : Option Addr} {len cap : Nat} {d : DataW H} {p : List MemPlace}
    (h : DataW.Trod enc Tryd.prog W 0 (fun _ => true) true 47 (.slice A len cap) d p) : ∃ T, Ss W A len cap T ∧ Lib.lens T + T.length ≤ Rows.uptoBulk d := by
  obtain ⟨fuel, hf⟩ := h
  rcases open_strings Tryd.underlying47 Tryd.underlying9 cellsStr hf with ⟨hcs, hx⟩ | ⟨x, l, c, ss, hcs, _, hl, hm, hz, hx, hcell, _⟩
  · simp [Value.cells] at hcs
    obtain ⟨rfl, rfl, rfl⟩ := hcs
    exact ⟨[], Ss.nil W 0 none (by simp [maxLen]), by simp [Lib.lens]⟩
  · simp [Value.cells] at hcs
    obtain ⟨rfl, rfl, rfl⟩ := hcs
    simp only [if_true] at hz
    simp only [Prod.mk.injEq] at hx
    obtain ⟨rfl, _⟩ := hx
    have hlen : (ss.take len).length = len := by rw [List.length_take]; omega
    refine ⟨(ss.take len).map (·.data.toList), ⟨by rw [List.length_map]; exact hlen, hl, hm, fun hn => ?_⟩, ?_⟩
    · have h0 := hcell 0 (by omega)
      obtain ⟨b, off, spot⟩ := x
      have hspot : spot = none := by simpa [Addr.add] using World.cell?_spot h0
      subst hspot
      refine ⟨b, off, rfl, fun i y hy => ?_⟩
      rw [List.getElem?_map, List.getElem?_take] at hy
      split at hy
      · rename_i hi
        have hiz : i < ss.length := by omega
        rw [List.getElem?_eq_getElem hiz] at hy
        simp only [Option.map_some, Option.some.injEq] at hy
        subst hy
        have hc := hcell i hiz
        rw [Addr.add_lit] at hc
        rw [hc]
        simp only [List.getD, List.getElem?_eq_getElem hiz, Option.getD_some]
      · cases hy
    · simp only [Rows.uptoBulk]
      rw [bulk_strs, List.length_map]
      omega
end Go.Proofs.YtgffamdlnacamaaDoor
