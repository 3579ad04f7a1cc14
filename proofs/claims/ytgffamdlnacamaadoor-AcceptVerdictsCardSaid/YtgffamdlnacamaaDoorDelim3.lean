/- Layer 6: the signs of a message, walked. -/
import Derived.Test.YtgffamdlnacamaaDoorDelim2
import Derived.Lib.BufferMore
namespace Go.Proofs.YtgffamdlnacamaaDoor
open Go.RowKit

def Sgn.of (l : List UInt8) : Sgn := ⟨l.getD 3 0, l.getD 4 0, l.getD 5 0, l.getD 6 0, l.getD 7 0⟩
def Sgn.zero : Sgn := ⟨0, 0, 0, 0, 0⟩
/-- the signs of bytes, and the error -/
def readD (l : List UInt8) : Sgn × Int :=
  if l.length < 9 then (Sgn.zero, 7)
  else if l.take 3 ≠ [77, 83, 72] ∨ (Sgn.of l).good = false then (Sgn.zero, 11)
  else if l.getD 8 0 ≠ l.getD 3 0 ∧ l.getD 8 0 ≠ 13 then (Sgn.zero, 11)
  else (Sgn.of l, 0)

/-- a block of five cells, stored over -/
def setFive (W : World) (G : Nat) (a b c d e : Value) : World := ((((W.setCell ⟨G, 0, none⟩ a).setCell ⟨G, 1, none⟩ b).setCell ⟨G, 2, none⟩ c).setCell ⟨G, 3, none⟩ d).setCell ⟨G, 4, none⟩ e
theorem setFive_row {W : World} {G : Nat} {a' b' c' d' e' : Value} {t : TypeId} (h : W.heap[G]? = some (.cells #[a', b', c', d', e'] t)) (a b c d e : Value) : (setFive W G a b c d e).heap[G]? = some (.cells #[a, b, c, d, e] t) :=
  Lib.heap_setCell_same (Lib.heap_setCell_same (Lib.heap_setCell_same (Lib.heap_setCell_same (Lib.heap_setCell_same h a) b) c) d) e
theorem setFive_below {B : Nat} {w W : World} {G : Nat} (h : Below B w W) (hG : B ≤ G) (a b c d e : Value) : Below B w (setFive W G a b c d e) :=
  ((((h.setCell (p := ⟨G, 0, none⟩) hG a).setCell (p := ⟨G, 1, none⟩) hG b).setCell (p := ⟨G, 2, none⟩) hG c).setCell (p := ⟨G, 3, none⟩) hG d).setCell (p := ⟨G, 4, none⟩) hG e
theorem frozen_of {W : World} {G : Nat} {cs : Array Value} {t : TypeId} (h : W.heap[G]? = some (.cells cs t)) (k : Nat) : W.frozen? ⟨G, k, none⟩ = false := by
  simp [World.frozen?, h]

set_option maxHeartbeats 1000000 in
set_option maxRecDepth 100000 in
theorem delimRead_short (A : Option Addr) (n c : Nat) (l : List UInt8) (w : World) (hB : Bs w A n c l) (h9 : (n : Int) < 9) :
    Calls Tryd.prog 44 #[.slice A n c] w fun e w' => e = .returned (.tuple #[(readD l).1.v, .int .i64 (readD l).2]) ∧ Below w.heap.size w w' := by
  have hn := hB.nmax
  have HL := Lib.hid hB.len
  have HB := Lib.hid hB; clear hB
  rw [show readD l = (Sgn.zero, 7) from by unfold readD; rw [if_pos (by rw [HL.out]; omega)]]
  go_enter Tryd.func44, Tryd.ntmps44
  go_wp2_with (fail)
  exact bodyPost_ret (v := .tuple #[dlm 0 0 0 0 0, .int .i64 7]) (by simp [results, Tryd.results44, go_sem]) rfl ⟨rfl, (Below.refl _ w).alloc (Nat.le_refl _) _⟩

set_option maxHeartbeats 1000000 in
set_option maxRecDepth 100000 in
theorem delimRead_head (A : Option Addr) (n c : Nat) (l : List UInt8) (w : World) (hB : Bs w A n c l) (h9 : ¬ (n : Int) < 9) (hm : ¬ l.take 3 = [77, 83, 72]) :
    Calls Tryd.prog 44 #[.slice A n c] w fun e w' => e = .returned (.tuple #[(readD l).1.v, .int .i64 (readD l).2]) ∧ Below w.heap.size w w' := by
  have Khm := Lib.hid hm; clear hm
  have hn := hB.nmax
  have HL := Lib.hid hB.len
  have HB := Lib.hid hB; clear hB
  have h8 : 9 ≤ n := by omega
  obtain ⟨b, o, rfl, hb, hc⟩ := HB.out.at_ (by omega)
  go_enter Tryd.func44, Tryd.ntmps44
  go_wp2_with (fail)
  have hlen := HL.out
  have hr1 := heap_alloc_new w (.cells #[.int .u8 0, .int .u8 0, .int .u8 0, .int .u8 0, .int .u8 0] 25)
  have hg1 : w.heap.size < (w.alloc (.cells #[.int .u8 0, .int .u8 0, .int .u8 0, .int .u8 0, .int .u8 0] 25)).heap.size := by simp
  have HB1 : Hid (Below w.heap.size w (w.alloc (.cells #[.int .u8 0, .int .u8 0, .int .u8 0, .int .u8 0, .int .u8 0] 25))) := Lib.hid ((Below.refl _ w).alloc (Nat.le_refl _) _)
  have HS1 := Lib.hid (HB.out.alloc (.cells #[.int .u8 0, .int .u8 0, .int .u8 0, .int .u8 0, .int .u8 0] 25))
  clear HB hb hc
  obtain ⟨G1, hG⟩ : ∃ G, G = w.heap.size := ⟨_, rfl⟩
  have HG1 : Hid (w.heap.size ≤ G1) := Lib.hid (by omega)
  generalize w.alloc (.cells #[.int .u8 0, .int .u8 0, .int .u8 0, .int .u8 0, .int .u8 0] 25) = W1 at *
  rw [← hG] at hr1 hg1 ⊢
  have HB1' : Hid (Below w.heap.size w W1) := Lib.hid (by first | exact HB1.out | (rw [← hG]; exact HB1.out))
  clear hG HB1
  have cell : ∀ k, k < n → W1.cell? ⟨b, o + k, none⟩ = some (.int .u8 ((l.getD k 0).toNat : Int)) := by
    intro k hk
    obtain ⟨b', o', e, _, hc⟩ := HS1.out.at_ (by omega)
    cases e
    rw [hc k (l.getD k 0) (by rw [List.getD_eq_getElem?_getD, List.getElem?_eq_getElem (by omega)]; rfl)]
  obtain ⟨S, hS⟩ : ∃ S : Sgn, S = Sgn.of l := ⟨_, rfl⟩
  obtain ⟨x8, hx8⟩ : ∃ x : UInt8, x = l.getD 8 0 := ⟨_, rfl⟩
  have z3 : W1.cell? ⟨b, o + 3, none⟩ = some (.int .u8 (S.a.toNat : Int)) := by rw [hS]; exact cell 3 (by omega)
  have z4 : W1.cell? ⟨b, o + 4, none⟩ = some (.int .u8 (S.b.toNat : Int)) := by rw [hS]; exact cell 4 (by omega)
  have z5 : W1.cell? ⟨b, o + 5, none⟩ = some (.int .u8 (S.c.toNat : Int)) := by rw [hS]; exact cell 5 (by omega)
  have z6 : W1.cell? ⟨b, o + 6, none⟩ = some (.int .u8 (S.d.toNat : Int)) := by rw [hS]; exact cell 6 (by omega)
  have z7 : W1.cell? ⟨b, o + 7, none⟩ = some (.int .u8 (S.e.toNat : Int)) := by rw [hS]; exact cell 7 (by omega)
  have z8 : W1.cell? ⟨b, o + 8, none⟩ = some (.int .u8 (x8.toNat : Int)) := by rw [hx8]; exact cell 8 (by omega)
  have HSS := Lib.hid hS
  have HX8 := Lib.hid hx8
  clear hS hx8
  clear cell
  have i3 : (3 : Int) < n := by omega
  have i4 : (4 : Int) < n := by omega
  have i5 : (5 : Int) < n := by omega
  have i6 : (6 : Int) < n := by omega
  have i7 : (7 : Int) < n := by omega
  have HR1 := Lib.hid hr1
  have HH1 := Lib.hid hg1
  clear hr1 hg1
  have hbw : b < W1.heap.size := by
    obtain ⟨b', o', e, hb', _⟩ := HS1.out.at_ (by omega)
    cases e
    exact hb'
  have hbne : b ≠ W1.heap.size := by omega
  have hbne' : ¬ W1.heap.size = b := by omega
  have Z8 := Lib.hid z8
  clear z8
  go_region
  have hr2 : ((W1.alloc (.cells #[.int .u8 (S.a.toNat : Int), .int .u8 (S.b.toNat : Int), .int .u8 (S.c.toNat : Int), .int .u8 (S.d.toNat : Int), .int .u8 (S.e.toNat : Int)] 25)).drew).heap[W1.heap.size]? = some (.cells #[.int .u8 (S.a.toNat : Int), .int .u8 (S.b.toNat : Int), .int .u8 (S.c.toNat : Int), .int .u8 (S.d.toNat : Int), .int .u8 (S.e.toNat : Int)] 25) := heap_alloc_new W1 (.cells #[.int .u8 (S.a.toNat : Int), .int .u8 (S.b.toNat : Int), .int .u8 (S.c.toNat : Int), .int .u8 (S.d.toNat : Int), .int .u8 (S.e.toNat : Int)] 25)
  have HS2 : Hid (Bs ((W1.alloc (.cells #[.int .u8 (S.a.toNat : Int), .int .u8 (S.b.toNat : Int), .int .u8 (S.c.toNat : Int), .int .u8 (S.d.toNat : Int), .int .u8 (S.e.toNat : Int)] 25)).drew) (some ⟨b, o, none⟩) n c l) := Lib.hid (HS1.out.alloc (.cells #[.int .u8 (S.a.toNat : Int), .int .u8 (S.b.toNat : Int), .int .u8 (S.c.toNat : Int), .int .u8 (S.d.toNat : Int), .int .u8 (S.e.toNat : Int)] 25)).drew
  have hb2 : Below W1.heap.size W1 ((W1.alloc (.cells #[.int .u8 (S.a.toNat : Int), .int .u8 (S.b.toNat : Int), .int .u8 (S.c.toNat : Int), .int .u8 (S.d.toNat : Int), .int .u8 (S.e.toNat : Int)] 25)).drew) := ((Below.refl _ W1).alloc (Nat.le_refl _) _).drew
  have HB2 : Hid (Below w.heap.size w ((W1.alloc (.cells #[.int .u8 (S.a.toNat : Int), .int .u8 (S.b.toNat : Int), .int .u8 (S.c.toNat : Int), .int .u8 (S.d.toNat : Int), .int .u8 (S.e.toNat : Int)] 25)).drew)) := Lib.hid (HB1'.out.trans (hb2.mono HB1'.out.size))
  have HR2 : Hid (((W1.alloc (.cells #[.int .u8 (S.a.toNat : Int), .int .u8 (S.b.toNat : Int), .int .u8 (S.c.toNat : Int), .int .u8 (S.d.toNat : Int), .int .u8 (S.e.toNat : Int)] 25)).drew).heap[G1]? = some (.cells #[.int .u8 0, .int .u8 0, .int .u8 0, .int .u8 0, .int .u8 0] 25)) := Lib.hid (by rw [hb2.block _ HH1.out]; exact HR1.out)
  have HG2 : Hid (G1 < ((W1.alloc (.cells #[.int .u8 (S.a.toNat : Int), .int .u8 (S.b.toNat : Int), .int .u8 (S.c.toNat : Int), .int .u8 (S.d.toNat : Int), .int .u8 (S.e.toNat : Int)] 25)).drew).heap.size) := Lib.hid (Nat.lt_of_lt_of_le HH1.out hb2.size)
  have HGG : Hid (W1.heap.size < ((W1.alloc (.cells #[.int .u8 (S.a.toNat : Int), .int .u8 (S.b.toNat : Int), .int .u8 (S.c.toNat : Int), .int .u8 (S.d.toNat : Int), .int .u8 (S.e.toNat : Int)] 25)).drew).heap.size) := Lib.hid (by show _ < (W1.alloc (.cells #[.int .u8 (S.a.toNat : Int), .int .u8 (S.b.toNat : Int), .int .u8 (S.c.toNat : Int), .int .u8 (S.d.toNat : Int), .int .u8 (S.e.toNat : Int)] 25)).heap.size; simp)
  have HZ8 : Hid (((W1.alloc (.cells #[.int .u8 (S.a.toNat : Int), .int .u8 (S.b.toNat : Int), .int .u8 (S.c.toNat : Int), .int .u8 (S.d.toNat : Int), .int .u8 (S.e.toNat : Int)] 25)).drew).cell? ⟨b, o + 8, none⟩ = some (.int .u8 (x8.toNat : Int))) := Lib.hid (by rw [hb2.cell (p := ⟨b, o + 8, none⟩) hbw]; exact Z8.out)
  obtain ⟨G2, hG2⟩ : ∃ G, G = W1.heap.size := ⟨_, rfl⟩
  have HNE : Hid (G2 ≠ G1) := Lib.hid (by have := HH1.out; omega)
  clear hb2 hbne hbne' z3 z4 z5 z6 z7 i3 i4 i5 i6 i7 HS1 HB1' HR1 HH1 Z8
  generalize (W1.alloc (.cells #[.int .u8 (S.a.toNat : Int), .int .u8 (S.b.toNat : Int), .int .u8 (S.c.toNat : Int), .int .u8 (S.d.toNat : Int), .int .u8 (S.e.toNat : Int)] 25)).drew = W2 at *
  rw [← hG2] at hr2 HGG ⊢
  clear hG2
  have q0 := cell_of_row W2 G2 0 _ _ _ hr2
  have q1 := cell_of_row W2 G2 1 _ _ _ hr2
  have q2 := cell_of_row W2 G2 2 _ _ _ hr2
  have q3 := cell_of_row W2 G2 3 _ _ _ hr2
  have q4 := cell_of_row W2 G2 4 _ _ _ hr2
  simp only [List.getElem?_toArray, List.getElem?_cons_zero, List.getElem?_cons_succ] at q0 q1 q2 q3 q4
  have HR3 := Lib.hid hr2
  clear hr2
  have hcv := (Bs.take HS2.out (j := 3) (by omega)).str (P := Tryd.prog) 22 5 9 Tryd.underlying22 Tryd.underlying5 Tryd.underlying9
  have hc3 : (3 : Int) ≤ c := by have := HS2.out.le; omega
  have HRD : Hid (readD l = if l.take 3 ≠ [77, 83, 72] ∨ S.good = false then (Sgn.zero, 11) else if x8 ≠ S.a ∧ x8 ≠ 13 then (Sgn.zero, 11) else (S, 0)) := Lib.hid (by unfold readD; rw [if_neg (by rw [hlen]; omega), ← HSS.out, ← HX8.out, show l.getD 3 0 = S.a from by rw [HSS.out]; rfl])
  have ZC : ∀ w3 : World, Below W2.heap.size W2 w3 → w3.heap[G1]? = some (.cells #[.int .u8 0, .int .u8 0, .int .u8 0, .int .u8 0, .int .u8 0] 25) ∧ w3.cell? ⟨b, o + 8, none⟩ = some (.int .u8 (x8.toNat : Int)) ∧ w3.heap[G2]? = some (.cells #[.int .u8 (S.a.toNat : Int), .int .u8 (S.b.toNat : Int), .int .u8 (S.c.toNat : Int), .int .u8 (S.d.toNat : Int), .int .u8 (S.e.toNat : Int)] 25) := fun w3 h3 => ⟨by rw [h3.block _ HG2.out]; exact HR2.out, by
    obtain ⟨b', o', e, hb', _⟩ := HS2.out.at_ (by omega)
    cases e
    rw [h3.cell (p := ⟨b, o + 8, none⟩) hb']; exact HZ8.out, by rw [h3.block _ HGG.out]; exact HR3.out⟩
  have ZCH := Lib.hid ZC
  clear ZC
  have hm := Khm.out; clear Khm
  have hm' : (l.take 3 = [77, 83, 72]) = False := by simp [hm]
  have HRZ := Lib.hid (show readD l = (Sgn.zero, 11) from by rw [HRD.out, if_pos (.inl hm)])
  clear HRD q0 q1 q2 q3 q4
  have c0 := cell_of_row _ G1 0 _ _ _ HR2.out
  have c1 := cell_of_row _ G1 1 _ _ _ HR2.out
  have c2 := cell_of_row _ G1 2 _ _ _ HR2.out
  have c3 := cell_of_row _ G1 3 _ _ _ HR2.out
  have c4 := cell_of_row _ G1 4 _ _ _ HR2.out
  simp only [List.getElem?_toArray, List.getElem?_cons_zero, List.getElem?_cons_succ] at c0 c1 c2 c3 c4
  have f0 := frozen_of HR2.out 0
  have f1 := frozen_of HR2.out 1
  have f2 := frozen_of HR2.out 2
  have f3 := frozen_of HR2.out 3
  have f4 := frozen_of HR2.out 4
  go_wp2_with (fail)
  clear c0 c1 c2 c3 c4 f0 f1 f2 f3 f4
  have hrow := setFive_row (W := W2) HR2.out (.int .u8 0) (.int .u8 0) (.int .u8 0) (.int .u8 0) (.int .u8 0)
  have hbel := setFive_below (W := W2) HB2.out HG1.out (.int .u8 0) (.int .u8 0) (.int .u8 0) (.int .u8 0) (.int .u8 0)
  unfold setFive at hrow hbel
  generalize (((((W2.setCell ⟨G1, 0, none⟩ (.int .u8 0)).setCell ⟨G1, 1, none⟩ (.int .u8 0)).setCell ⟨G1, 2, none⟩ (.int .u8 0)).setCell ⟨G1, 3, none⟩ (.int .u8 0)).setCell ⟨G1, 4, none⟩ (.int .u8 0)) = W5 at hrow hbel ⊢
  have c0 := cell_of_row _ G1 0 _ _ _ hrow
  have c1 := cell_of_row _ G1 1 _ _ _ hrow
  have c2 := cell_of_row _ G1 2 _ _ _ hrow
  have c3 := cell_of_row _ G1 3 _ _ _ hrow
  have c4 := cell_of_row _ G1 4 _ _ _ hrow
  simp only [List.getElem?_toArray, List.getElem?_cons_zero, List.getElem?_cons_succ] at c0 c1 c2 c3 c4
  exact bodyPost_ret (v := .tuple #[dlm 0 0 0 0 0, .int .i64 11]) (by simp [results, Tryd.results44, go_sem, c0, c1, c2, c3, c4]) rfl ⟨by rw [HRZ.out]; rfl, hbel⟩
end Go.Proofs.YtgffamdlnacamaaDoor
