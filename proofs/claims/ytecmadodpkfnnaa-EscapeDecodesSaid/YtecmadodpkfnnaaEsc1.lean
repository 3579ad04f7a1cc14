/- Layer 7: the signs and the escapes, as maps, walked. -/
import Derived.Test.YtecmadodpkfnnaaEscMath
import Derived.Test.YtecmadodpkfnnaaBuilder
namespace Go.Proofs.Ytecmadodpkfnnaa
open Go.RowKit Go.MapKept

noncomputable def keyU8 : KeyK Try.prog 5 UInt8 u8 := keyByte Try.underlying5
/-- the signs in a block of their own -/
def Box5 (s : Sgn) (g : Nat) (w : World) : Prop := w.heap[g]? = some (.cells #[u8 s.a, u8 s.b, u8 s.c, u8 s.d, u8 s.e] 23)
theorem Box5.cells {s : Sgn} {g : Nat} {w : World} (h : Box5 s g w) : w.cell? ⟨g, 0, none⟩ = some (u8 s.a) ∧ w.cell? ⟨g, 1, none⟩ = some (u8 s.b) ∧ w.cell? ⟨g, 2, none⟩ = some (u8 s.c) ∧ w.cell? ⟨g, 3, none⟩ = some (u8 s.d) ∧ w.cell? ⟨g, 4, none⟩ = some (u8 s.e) :=
  ⟨cell_of_row w g 0 _ _ _ h, cell_of_row w g 1 _ _ _ h, cell_of_row w g 2 _ _ _ h, cell_of_row w g 3 _ _ _ h, cell_of_row w g 4 _ _ _ h⟩
theorem Box5.ch {s : Sgn} {g : Nat} {S : Nat → Prop} {w w' : World} (h : Box5 s g w) (c : Ch S w w') (hn : ¬ S g) : Box5 s g w' := c.row h hn
theorem Box5.below {s : Sgn} {g : Nat} {w w' : World} (h : Box5 s g w) (hb : Below w.heap.size w w') : Box5 s g w' := (hb.block g (Array.getElem?_eq_some_iff.1 h).1).trans h
theorem Box5.new (s : Sgn) (w : World) : Box5 s w.heap.size (w.alloc (.cells #[u8 s.a, u8 s.b, u8 s.c, u8 s.d, u8 s.e] 23)) := heap_alloc_new w _
theorem Box5.lt {s : Sgn} {g : Nat} {w : World} (h : Box5 s g w) : g < w.heap.size := (Array.getElem?_eq_some_iff.1 h).1

set_option maxHeartbeats 2000000 in
set_option maxRecDepth 100000 in
theorem escSigns (s : Sgn) (w : World) : Calls Try.prog 34 #[s.v] w fun e w' => ∃ M, e = .returned (.map (some M)) ∧ MapIs u8 w' M (sgnL s) ∧ w.heap.size ≤ M ∧ Below w.heap.size w w' := by
  have hmm := @run_makeMap Try.prog
  have hb0 : Below w.heap.size w (w.alloc (.cells #[u8 s.a, u8 s.b, u8 s.c, u8 s.d, u8 s.e] 23)) := (Below.refl _ _).alloc (Nat.le_refl _) _
  have hb1 : Below w.heap.size w ((w.alloc (.cells #[u8 s.a, u8 s.b, u8 s.c, u8 s.d, u8 s.e] 23)).alloc (.map #[] 0)) := hb0.alloc (by simp) _
  have HB0 := Lib.hid hb1
  have HM0 : Hid (MapIs u8 ((w.alloc (.cells #[u8 s.a, u8 s.b, u8 s.c, u8 s.d, u8 s.e] 23)).alloc (.map #[] 0)) (w.heap.size + 1) []) := Lib.hid (by have := MapIs.new u8 (w.alloc (.cells #[u8 s.a, u8 s.b, u8 s.c, u8 s.d, u8 s.e] 23)); simpa using this)
  have HX0 : Hid (Box5 s w.heap.size ((w.alloc (.cells #[u8 s.a, u8 s.b, u8 s.c, u8 s.d, u8 s.e] 23)).alloc (.map #[] 0))) := Lib.hid ((Box5.new s w).below ((Below.refl _ _).alloc (Nat.le_refl _) _))
  clear hb0 hb1
  have tok1 : Hid True := Lib.hid trivial
  have tok2 : Hid True := Lib.hid trivial
  have tok3 : Hid True := Lib.hid trivial
  have tok4 : Hid True := Lib.hid trivial
  have tok5 : Hid True := Lib.hid trivial
  go_enter Try.func34, Try.ntmps34
  go_wp2_with (first
    | (have _t := tok1; refine wpList_updateL rfl keyU8 (.tmp 3) (.const (.int .u8 70)) (.tmp 5) 74 5 (.inr rfl) Try.underlying74 (w.heap.size + 1) [] rfl HM0.out 70 rfl (u8 s.a) rfl ?_; intro w1 hm hch hsz; have HM1 : Hid (MapIs u8 w1 (w.heap.size + 1) [(70, u8 s.a)]) := Lib.hid hm; have HX1 := Lib.hid (HX0.out.ch hch (by omega)); have HB1 : Hid (Below w.heap.size w w1) := Lib.hid (HB0.out.trans (hch.below (fun k hk => by omega) HB0.out.size)); obtain ⟨x10, x11, x12, x13, x14⟩ := HX1.out.cells; clear tok1 hm hch hsz _t)
    | (have _t := tok2; refine wpList_updateL rfl keyU8 (.tmp 3) (.const (.int .u8 83)) (.tmp 7) 74 5 (.inr rfl) Try.underlying74 (w.heap.size + 1) [(70, u8 s.a)] rfl HM1.out 83 rfl (u8 s.b) rfl ?_; intro w2 hm hch hsz; have HM2 : Hid (MapIs u8 w2 (w.heap.size + 1) [(70, u8 s.a), (83, u8 s.b)]) := Lib.hid hm; have HX2 := Lib.hid (HX1.out.ch hch (by omega)); have HB2 : Hid (Below w.heap.size w w2) := Lib.hid (HB1.out.trans (hch.below (fun k hk => by omega) HB1.out.size)); obtain ⟨x20, x21, x22, x23, x24⟩ := HX2.out.cells; clear tok2 hm hch hsz _t)
    | (have _t := tok3; refine wpList_updateL rfl keyU8 (.tmp 3) (.const (.int .u8 84)) (.tmp 9) 74 5 (.inr rfl) Try.underlying74 (w.heap.size + 1) [(70, u8 s.a), (83, u8 s.b)] rfl HM2.out 84 rfl (u8 s.e) rfl ?_; intro w3 hm hch hsz; have HM3 : Hid (MapIs u8 w3 (w.heap.size + 1) [(70, u8 s.a), (83, u8 s.b), (84, u8 s.e)]) := Lib.hid hm; have HX3 := Lib.hid (HX2.out.ch hch (by omega)); have HB3 : Hid (Below w.heap.size w w3) := Lib.hid (HB2.out.trans (hch.below (fun k hk => by omega) HB2.out.size)); obtain ⟨x30, x31, x32, x33, x34⟩ := HX3.out.cells; clear tok3 hm hch hsz _t)
    | (have _t := tok4; refine wpList_updateL rfl keyU8 (.tmp 3) (.const (.int .u8 82)) (.tmp 11) 74 5 (.inr rfl) Try.underlying74 (w.heap.size + 1) [(70, u8 s.a), (83, u8 s.b), (84, u8 s.e)] rfl HM3.out 82 rfl (u8 s.c) rfl ?_; intro w4 hm hch hsz; have HM4 : Hid (MapIs u8 w4 (w.heap.size + 1) [(70, u8 s.a), (83, u8 s.b), (84, u8 s.e), (82, u8 s.c)]) := Lib.hid hm; have HX4 := Lib.hid (HX3.out.ch hch (by omega)); have HB4 : Hid (Below w.heap.size w w4) := Lib.hid (HB3.out.trans (hch.below (fun k hk => by omega) HB3.out.size)); obtain ⟨x40, x41, x42, x43, x44⟩ := HX4.out.cells; clear tok4 hm hch hsz _t)
    | (have _t := tok5; refine wpList_updateL rfl keyU8 (.tmp 3) (.const (.int .u8 69)) (.tmp 13) 74 5 (.inr rfl) Try.underlying74 (w.heap.size + 1) [(70, u8 s.a), (83, u8 s.b), (84, u8 s.e), (82, u8 s.c)] rfl HM4.out 69 rfl (u8 s.d) rfl ?_; intro w5 hm hch hsz; have HM5 : Hid (MapIs u8 w5 (w.heap.size + 1) [(70, u8 s.a), (83, u8 s.b), (84, u8 s.e), (82, u8 s.c), (69, u8 s.d)]) := Lib.hid hm; have HX5 := Lib.hid (HX4.out.ch hch (by omega)); have HB5 : Hid (Below w.heap.size w w5) := Lib.hid (HB4.out.trans (hch.below (fun k hk => by omega) HB4.out.size)); obtain ⟨x50, x51, x52, x53, x54⟩ := HX5.out.cells; clear tok5 hm hch hsz _t))
  go_ret
  exact ⟨w.heap.size + 1, rfl, HM5.out, by omega, HB5.out⟩
end Go.Proofs.Ytecmadodpkfnnaa
