/- Layer 9: heads, and the small functions about them, walked. -/
import Derived.Test.YtbgjhpkjdcbclaaDoorMshA
import Derived.Lib.LaidTab
namespace Go.Proofs.YtbgjhpkjdcbclaaDoor
open Go.RowKit

/-- a head: signs and ten texts -/
structure Hd where
  d : Sgn
  a0 : ByteArray
  a1 : ByteArray
  a2 : ByteArray
  a3 : ByteArray
  a4 : ByteArray
  a5 : ByteArray
  a6 : ByteArray
  a7 : ByteArray
  a8 : ByteArray
  a9 : ByteArray

abbrev TH : TypeId := 25
abbrev Hd.cells (h : Hd) : Array Value := #[u8 h.d.a, u8 h.d.b, u8 h.d.c, u8 h.d.d, u8 h.d.e, .string h.a0, .string h.a1, .string h.a2, .string h.a3, .string h.a4, .string h.a5, .string h.a6, .string h.a7, .string h.a8, .string h.a9]
abbrev Hd.v (h : Hd) : Value := .agg #[u8 h.d.a, u8 h.d.b, u8 h.d.c, u8 h.d.d, u8 h.d.e, .string h.a0, .string h.a1, .string h.a2, .string h.a3, .string h.a4, .string h.a5, .string h.a6, .string h.a7, .string h.a8, .string h.a9]
def Hd.l (h : Hd) : List ByteArray := [h.a0, h.a1, h.a2, h.a3, h.a4, h.a5, h.a6, h.a7, h.a8, h.a9]
def Hd.zero : Hd := ⟨⟨0, 0, 0, 0, 0⟩, ⟨#[]⟩, ⟨#[]⟩, ⟨#[]⟩, ⟨#[]⟩, ⟨#[]⟩, ⟨#[]⟩, ⟨#[]⟩, ⟨#[]⟩, ⟨#[]⟩, ⟨#[]⟩⟩
/-- a head in a block of its own -/
def BoxH (h : Hd) (g : Nat) (w : World) : Prop := w.heap[g]? = some (.cells h.cells TH)
theorem BoxH.cells {h : Hd} {g : Nat} {w : World} (k : BoxH h g w) : w.cell? ⟨g, 0, none⟩ = some (u8 h.d.a) ∧ w.cell? ⟨g, 1, none⟩ = some (u8 h.d.b) ∧ w.cell? ⟨g, 2, none⟩ = some (u8 h.d.c) ∧ w.cell? ⟨g, 3, none⟩ = some (u8 h.d.d) ∧ w.cell? ⟨g, 4, none⟩ = some (u8 h.d.e) ∧ w.cell? ⟨g, 5, none⟩ = some (.string h.a0) ∧ w.cell? ⟨g, 6, none⟩ = some (.string h.a1) ∧ w.cell? ⟨g, 7, none⟩ = some (.string h.a2) ∧ w.cell? ⟨g, 8, none⟩ = some (.string h.a3) ∧ w.cell? ⟨g, 9, none⟩ = some (.string h.a4) ∧ w.cell? ⟨g, 10, none⟩ = some (.string h.a5) ∧ w.cell? ⟨g, 11, none⟩ = some (.string h.a6) ∧ w.cell? ⟨g, 12, none⟩ = some (.string h.a7) ∧ w.cell? ⟨g, 13, none⟩ = some (.string h.a8) ∧ w.cell? ⟨g, 14, none⟩ = some (.string h.a9) :=
  ⟨cell_of_row w g 0 _ _ _ k, cell_of_row w g 1 _ _ _ k, cell_of_row w g 2 _ _ _ k, cell_of_row w g 3 _ _ _ k, cell_of_row w g 4 _ _ _ k, cell_of_row w g 5 _ _ _ k, cell_of_row w g 6 _ _ _ k, cell_of_row w g 7 _ _ _ k, cell_of_row w g 8 _ _ _ k, cell_of_row w g 9 _ _ _ k, cell_of_row w g 10 _ _ _ k, cell_of_row w g 11 _ _ _ k, cell_of_row w g 12 _ _ _ k, cell_of_row w g 13 _ _ _ k, cell_of_row w g 14 _ _ _ k⟩
theorem BoxH.below {h : Hd} {g : Nat} {w w' : World} (k : BoxH h g w) (hb : Below w.heap.size w w') : BoxH h g w' := (hb.block g (Array.getElem?_eq_some_iff.1 k).1).trans k
theorem BoxH.keep {h : Hd} {g B : Nat} {w w' : World} (k : BoxH h g w) (hb : Below B w w') (hg : g < B) : BoxH h g w' := (hb.block g hg).trans k
theorem BoxH.new (h : Hd) (w : World) : BoxH h w.heap.size (w.alloc (.cells h.cells TH)) := heap_alloc_new w _
theorem BoxH.drew {h : Hd} {g : Nat} {w : World} (k : BoxH h g w) : BoxH h g w.drew := k
theorem boxHd_below (h : Hd) (w : World) : Below w.heap.size w (w.alloc (.cells h.cells TH)) := (Below.refl _ w).alloc (Nat.le_refl _) _
theorem heap_set_rowH {w : World} {g j : Nat} {C : Array Value} {t : TypeId} {fz : Nat × Nat} (h : w.heap[g]? = some (.cells C t fz)) (u : Value) : (w.setCell ⟨g, j, none⟩ u).heap[g]? = some (.cells (C.setIfInBounds j u) t fz) := by
  simp [World.setCell, Array.getElem?_modify, h]
theorem BoxH.frozen {h : Hd} {g : Nat} {w : World} (k : BoxH h g w) (j : Nat) : w.frozen? ⟨g, j, none⟩ = false := by
  unfold BoxH at k
  simp [World.frozen?, k]

/-- the known versions -/
def vB : Nat → ByteArray
  | 0 => ⟨#[50, 46, 49]⟩
  | 1 => ⟨#[50, 46, 50]⟩
  | 2 => ⟨#[50, 46, 51]⟩
  | 3 => ⟨#[50, 46, 51, 46, 49]⟩
  | 4 => ⟨#[50, 46, 52]⟩
  | 5 => ⟨#[50, 46, 53]⟩
  | 6 => ⟨#[50, 46, 53, 46, 49]⟩
  | 7 => ⟨#[50, 46, 54]⟩
  | 8 => ⟨#[50, 46, 55]⟩
  | 9 => ⟨#[50, 46, 56]⟩
  | _ => ⟨#[]⟩
def versL : List ByteArray := [vB 0, vB 1, vB 2, vB 3, vB 4, vB 5, vB 6, vB 7, vB 8, vB 9]
abbrev versV : Array Value := #[.string (vB 0), .string (vB 1), .string (vB 2), .string (vB 3), .string (vB 4), .string (vB 5), .string (vB 6), .string (vB 7), .string (vB 8), .string (vB 9)]
def knownD (s : ByteArray) : Bool := versL.any fun v => decide (v = s)
theorem strEqD {a b : ByteArray} (h : a = b) : (a.toList == b.toList) = true := by rw [strEq]; simpa using h

/-- the first component of the first repetition -/
def firstD (f : ByteArray) (d : Sgn) : List UInt8 := (cutAt d.b ((cutAt d.c f.data.toList).headD [])).headD []
theorem parts_first (f : ByteArray) (d : Sgn) : nthD (partsD f d 1) 1 = some (firstD f d) := by
  obtain ⟨x, r, hx⟩ : ∃ x r, cutAt d.c f.data.toList = x :: r := by
    cases h : cutAt d.c f.data.toList with
    | nil => exact absurd h (cutAt_ne _ _)
    | cons a b => exact ⟨a, b, rfl⟩
  obtain ⟨y, q, hy⟩ : ∃ y q, cutAt d.b x = y :: q := by
    cases h : cutAt d.b x with
    | nil => exact absurd h (cutAt_ne _ _)
    | cons a b => exact ⟨a, b, rfl⟩
  have h1 : nthD (cutAt d.c f.data.toList) 1 = some x := by rw [hx]; rfl
  unfold partsD firstD
  rw [h1, hx]
  show nthD (cutAt d.b x) 1 = some ((cutAt d.b x).headD [])
  rw [hy]; rfl
theorem parts_first0 (f : ByteArray) (d : Sgn) : (partsD f d 1).getD 0 [] = firstD f d ∧ 0 < (partsD f d 1).length := by
  have h := parts_first f d
  unfold nthD at h
  rw [if_pos (by omega), show ((1 : Int) - 1).toNat = 0 from rfl] at h
  exact ⟨by rw [List.getD_eq_getElem?_getD, h]; rfl, (List.getElem?_eq_some_iff.1 h).1⟩

set_option maxHeartbeats 1000000 in
set_option maxRecDepth 100000 in
theorem otherSigns_ (d : Sgn) (w : World) : Calls Tryd.prog 34 #[d.v] w fun e w' => e = .returned (str [d.b, d.c, d.d, d.e]) ∧ Below w.heap.size w w' := by
  have HX0 : Hid (BoxS d w.heap.size (boxSgn d w)) := Lib.hid (heap_alloc_new w _)
  have HB0 := Lib.hid (boxSgn_below d w)
  obtain ⟨c0, c1, c2, c3, c4⟩ := HX0.out.cells
  go_enter Tryd.func34, Tryd.ntmps34
  have hcv : (convert 28 9 (.slice (some ⟨w.heap.size + 1, 0, none⟩) 4 4)).run Tryd.prog ((w.alloc (.cells #[.int .u8 (d.a.toNat : Int), .int .u8 (d.b.toNat : Int), .int .u8 (d.c.toNat : Int), .int .u8 (d.d.toNat : Int), .int .u8 (d.e.toNat : Int)] 23)).alloc (.cells #[u8 d.b, u8 d.c, u8 d.d, u8 d.e] 5)) = .ok (str [d.b, d.c, d.d, d.e]) ((w.alloc (.cells #[.int .u8 (d.a.toNat : Int), .int .u8 (d.b.toNat : Int), .int .u8 (d.c.toNat : Int), .int .u8 (d.d.toNat : Int), .int .u8 (d.e.toNat : Int)] 23)).alloc (.cells #[u8 d.b, u8 d.c, u8 d.d, u8 d.e] 5)) := (Bs.lit (boxSgn d w) [d.b, d.c, d.d, d.e] 5 #[u8 d.b, u8 d.c, u8 d.d, u8 d.e] (w.heap.size + 1) (boxSgn_size d w).symm rfl rfl (by simp [maxLen])).str (P := Tryd.prog) 28 5 9 Tryd.underlying28 Tryd.underlying5 Tryd.underlying9
  have HB1 : Hid (Below w.heap.size w ((boxSgn d w).alloc (.cells #[u8 d.b, u8 d.c, u8 d.d, u8 d.e] 5))) := Lib.hid (HB0.out.alloc HB0.out.size _)
  go_wp2_with (fail)
  go_ret
  exact ⟨rfl, HB1.out⟩
end Go.Proofs.YtbgjhpkjdcbclaaDoor
