/- Layer 5: a deframer's cells; what may change. -/
import Derived.Test.YtjeibckjockmeaaDoorLater
import Derived.Test.YtjeibckjockmeaaDoorCrcLit
import Derived.RegionTactic
import Derived.BigRegion
import Derived.Laws.EntriesVeiled
import Derived.LoopTactic
namespace Go.Proofs.YtjeibckjockmeaaDoor
open Go.RowKit

/-- only blocks of S may have been written; the others that were there are as they were -/
structure Ch (S : Nat → Prop) (w w' : World) : Prop where
  os : w'.os = w.os
  tape : w'.tape = w.tape
  output : w'.output = w.output
  size : w.heap.size ≤ w'.heap.size
  block : ∀ k, k < w.heap.size → ¬ S k → w'.heap[k]? = w.heap[k]?
theorem Ch.refl (S : Nat → Prop) (w : World) : Ch S w w := ⟨rfl, rfl, rfl, Nat.le_refl _, fun _ _ _ => rfl⟩
theorem Ch.trans {S S' : Nat → Prop} {a b c : World} (h : Ch S a b) (k : Ch S' b c) (hS : ∀ x, x < a.heap.size → S' x → S x) : Ch S a c :=
  ⟨k.os.trans h.os, k.tape.trans h.tape, k.output.trans h.output, Nat.le_trans h.size k.size, fun i hi hn => (k.block i (Nat.lt_of_lt_of_le hi h.size) (fun hs => hn (hS i hi hs))).trans (h.block i hi hn)⟩
theorem Ch.of_below {S : Nat → Prop} {w w' : World} (h : Below w.heap.size w w') : Ch S w w' := ⟨h.os, h.tape, h.output, h.size, fun k hk _ => h.block k hk⟩
theorem Ch.of_grown {S : Nat → Prop} {w w' : World} {row : Option Nat} (h : w.grownBy w' row) (hr : ∀ k, row = some k → S k) : Ch S w w' :=
  ⟨h.os, h.tape, h.output, h.size, fun k hk hn => h.block k hk (fun e => hn (hr k e.symm))⟩
theorem Ch.set {S : Nat → Prop} {w w' : World} (h : Ch S w w') {a : Addr} (ha : S a.block) (u : Value) : Ch S w (w'.setCell a u) :=
  ⟨h.os, h.tape, h.output, Nat.le_trans h.size (by simp [World.setCell]), fun k hk hn => (Below.heap_setCell _ _ _ _ (fun e => hn (by rw [e]; exact ha))).trans (h.block k hk hn)⟩
/-- block D alone -/
abbrev At1 (D : Nat) : Nat → Prop := fun x => x = D
theorem Ch.set1 {D : Nat} {w w' : World} (h : Ch (At1 D) w w') (j : Nat) (u : Value) : Ch (At1 D) w (w'.setCell ⟨D, j, none⟩ u) := h.set (a := ⟨D, j, none⟩) rfl u
theorem Ch.drew {S : Nat → Prop} {w w' : World} (h : Ch S w w') : Ch S w w'.drew := ⟨h.os, h.tape, h.output, h.size, h.block⟩
theorem Ch.below {S : Nat → Prop} {B : Nat} {w w' : World} (h : Ch S w w') (hS : ∀ k, S k → B ≤ k) (hB : B ≤ w.heap.size) : Below B w w' :=
  ⟨h.os, h.tape, h.output, h.size, fun k hk => h.block k (by omega) (fun hs => by have := hS k hs; omega)⟩
theorem Ch.row {S : Nat → Prop} {w w' : World} (h : Ch S w w') {k : Nat} {o : Obj} (hk : w.heap[k]? = some o) (hn : ¬ S k) : w'.heap[k]? = some o :=
  (h.block k (Array.getElem?_eq_some_iff.1 hk).1 hn).trans hk

/-- a deframer's cells -/
structure Dfr where
  most : Int
  fn : Value
  begun : Bool
  ending : Bool
  fv : Value
  junk : Int
  over : Int
  broken : Int
abbrev Dfr.cells (s : Dfr) : Array Value := #[.int .i64 s.most, s.fn, .bool s.begun, .bool s.ending, s.fv, .int .i64 s.junk, .int .i64 s.over, .int .i64 s.broken]
def IsDfr (w : World) (g : Nat) (s : Dfr) : Prop := w.heap[g]? = some (.cells s.cells 43)
theorem IsDfr.cell {w : World} {g : Nat} {s : Dfr} (h : IsDfr w g s) (j : Nat) : w.cell? ⟨g, j, none⟩ = s.cells[j]? := cell_of_row w g j _ _ _ h
theorem IsDfr.frozen {w : World} {g : Nat} {s : Dfr} (h : IsDfr w g s) (j : Nat) : w.frozen? ⟨g, j, none⟩ = false := by simp [World.frozen?, show w.heap[g]? = _ from h]
theorem IsDfr.lt {w : World} {g : Nat} {s : Dfr} (h : IsDfr w g s) : g < w.heap.size := (Array.getElem?_eq_some_iff.1 h).1
theorem IsDfr.set {w : World} {g : Nat} {s s' : Dfr} (h : IsDfr w g s) (j : Nat) (v : Value) (hs : s.cells.setIfInBounds j v = s'.cells) : IsDfr (w.setCell ⟨g, j, none⟩ v) g s' := by
  unfold IsDfr
  rw [heap_setCell_same w g j _ _ v h, hs]
theorem IsDfr.drew {w : World} {g : Nat} {s : Dfr} (h : IsDfr w g s) : IsDfr w.drew g s := h
theorem IsDfr.ch {S : Nat → Prop} {w w' : World} {g : Nat} {s : Dfr} (h : IsDfr w g s) (c : Ch S w w') (hn : ¬ S g) : IsDfr w' g s := c.row h hn

abbrev bfn (F : FuncId) (D : Nat) : Value := .func (.func F) #[.pointer (some ⟨D, 0, none⟩)] #[]
inductive Md where
  | out
  | inn
  | beh
def Md.fn (D : Nat) : Md → Value
  | .out => bfn 23 D
  | .inn => bfn 27 D
  | .beh => bfn 29 D
def Md.begun : Md → Bool
  | .out => false
  | _ => true
def Md.ending : Md → Bool
  | .beh => true
  | _ => false

set_option maxRecDepth 100000 in
theorem dfLeave (w : World) (D : Nat) (s : Dfr) (h : IsDfr w D s) : Calls Tryd.prog 19 #[.pointer (some ⟨D, 0, none⟩)] w fun e w' =>
    e = .returned (.tuple #[]) ∧ IsDfr w' D { s with fn := Md.fn D .out, begun := false, ending := false, fv := .slice none 0 0 } ∧ Ch (At1 D) w w' ∧ w'.heap.size = w.heap.size := by
  have hmf : ∀ (fn : Fn) (first cap : Array Value) (w : World), (Instr.makeFunc fn first cap).run Tryd.prog w = .ok (.func fn first cap) w := fun _ _ _ _ => rfl
  have z1 := h.cell 1
  have z2 := h.cell 2
  have z3 := h.cell 3
  have z4 := h.cell 4
  simp at z1 z2 z3 z4
  have f1 := h.frozen 1
  have f2 := h.frozen 2
  have f3 := h.frozen 3
  have f4 := h.frozen 4
  have H := Lib.hid h
  clear h
  go_enter Tryd.func19, Tryd.ntmps19
  go_wp2
  go_end0
  refine ⟨rfl, ?_, ?_, ?_⟩
  · exact (((H.out.set (s' := { s with begun := false }) 2 _ rfl).set (s' := { s with begun := false, ending := false }) 3 _ rfl).set (s' := { s with begun := false, ending := false, fv := .slice none 0 0 }) 4 _ rfl).set 1 _ rfl
  · exact ((((Ch.refl _ w).set1 2 _).set1 3 _).set1 4 _).set1 1 _
  · simp [World.setCell]

set_option maxHeartbeats 1000000 in
set_option maxRecDepth 100000 in
theorem dfEnter (w : World) (D : Nat) (s : Dfr) (A : Option Addr) (n c : Nat) (hc : c ≤ 9223372036854775807) (hf : s.fv = .slice A n c) (h : IsDfr w D s) : Calls Tryd.prog 25 #[.pointer (some ⟨D, 0, none⟩)] w fun e w' =>
    e = .returned (.tuple #[]) ∧ IsDfr w' D { s with fn := Md.fn D .inn, begun := true, ending := false, fv := .slice A 0 c } ∧ Ch (At1 D) w w' ∧ w'.heap.size = w.heap.size := by
  have hmf : ∀ (fn : Fn) (first cap : Array Value) (w : World), (Instr.makeFunc fn first cap).run Tryd.prog w = .ok (.func fn first cap) w := fun _ _ _ _ => rfl
  have z1 := h.cell 1
  have z2 := h.cell 2
  have z3 := h.cell 3
  have z4 := h.cell 4
  simp at z1 z2 z3 z4
  rw [hf] at z4
  have f1 := h.frozen 1
  have f2 := h.frozen 2
  have f3 := h.frozen 3
  have f4 := h.frozen 4
  have H := Lib.hid h
  have hc0 : (0 : Int) ≤ (c : Int) := by omega
  clear h hf
  go_enter Tryd.func25, Tryd.ntmps25
  go_wp2
  go_region
  all_goals
    go_wp2
    go_end0
    refine ⟨rfl, ?_, ?_, ?_⟩
    · exact ((((H.out.set (s' := { s with begun := true }) 2 _ rfl).set (s' := { s with begun := true, ending := false }) 3 _ rfl).set (s' := { s with begun := true, ending := false, fv := .slice A 0 c }) 4 _ rfl).set (s' := { s with fn := Md.fn D .inn, begun := true, ending := false, fv := .slice A 0 c }) 1 (Md.fn D .inn) rfl).drew
    · exact (((((Ch.refl _ w).set1 2 _).set1 3 _).set1 4 _).set1 1 _).drew
    · simp [World.setCell, World.drew]
end Go.Proofs.YtjeibckjockmeaaDoor
