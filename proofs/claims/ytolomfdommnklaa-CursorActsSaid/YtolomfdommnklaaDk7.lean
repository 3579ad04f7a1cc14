/- Layer 2: Remove and Truncate, walked. -/
import Derived.Test.YtolomfdommnklaaDk6
namespace Go.Proofs.Ytolomfdommnklaa
open Go.RowKit Go.MapKept

/-- how a change ends: done, or lost: then it is done, or isn't -/
def ChOut (ok : Value) (d : Dk) (Rgo Rno : World → Prop) (e : Ending) (w' : World) : Prop :=
  (d.armedIn ≠ 1 ∧ e = .returned ok ∧ Rgo w') ∨ (d.armedIn = 1 ∧ e = .panicked [{ v := crashI (d.ops + 1), recovered := false }] ∧ ((dOdd d = true ∧ Rgo w') ∨ (dOdd d = false ∧ Rno w')))
section
variable {w w' : World} {B D M : Nat} {d : Dk} {F : List Ent}
theorem dkChange (h : DkAt w B D M d F) (ok : d.Ok) (k : FuncId) (caps : Array Value) (hk : FnOk k) (R : World → Prop)
    (hdo : ∀ w1, DkAt w1 B D M d.begin F → Ch (At1 D) w w1 → Calls Try.prog k caps w1 fun e w2 => e = .returned (.tuple #[]) ∧ R w2) (hR : ∀ w2, R w2 → w2.cell? ⟨D, 3, none⟩ = some (.int .i64 (d.ops + 1))) :
    Calls Try.prog 65 #[pD D, fnV k caps] w (ChOut (.tuple #[]) d R fun w' => DkAt w' B D M d.begin F ∧ Ch (At1 D) w w') := by
  by_cases ha : d.armedIn = 1
  · cases ho : dOdd d
    · exact (dkChange_even h ok ha ho k caps).mono fun e w' ⟨h1, h2⟩ => .inr ⟨ha, h1, .inr ⟨ho, h2⟩⟩
    · exact (dkChange_odd h ok ha ho k caps hk R hdo hR).mono fun e w' ⟨h1, h2⟩ => .inr ⟨ha, h1, .inl ⟨ho, h2⟩⟩
  · exact (dkChange_go h ok ha k caps hk R hdo).mono fun e w' ⟨h1, h2⟩ => .inl ⟨ha, h1, h2⟩

/-- a file gone: what is left -/
def DelR (B D M : Nat) (d : Dk) (F : List Ent) (w : World) (P Q : List Ent) (n : Nat) (w' : World) : Prop := DkAt w' B D M { d.begin with used := d.used - (n : Int) } (P ++ Q) ∧ DkCh D M F (P ++ Q) w w'
/-- nothing done -/
def NoR (B D M : Nat) (d : Dk) (F : List Ent) (w : World) (w' : World) : Prop := DkAt w' B D M d.begin F ∧ DkCh D M F F w w'

set_option maxHeartbeats 1000000 in
set_option maxRecDepth 100000 in
theorem dkRemove1 {P Q : List Ent} {nm : ByteArray} {g : Nat} {v : Value} {f : Fl} (h : DkAt w B D M d (P ++ ⟨nm, g, v, f⟩ :: Q)) (hfi : ∀ x ∈ P, x.nm ≠ nm) (hu : (f.bs.length : Int) ≤ d.used ∧ d.used ≤ 1073741824) (X Y : Nat) (hx : w.cell? ⟨X, 0, none⟩ = some (pD D)) (hy : w.cell? ⟨Y, 0, none⟩ = some (.string nm)) :
    Calls Try.prog 77 #[.pointer (some ⟨X, 0, none⟩), .pointer (some ⟨Y, 0, none⟩)] w fun e w' => e = .returned (.tuple #[]) ∧ DkAt w' B D M { d with used := d.used - (f.bs.length : Int) } (P ++ Q) ∧ DkCh D M (P ++ ⟨nm, g, v, f⟩ :: Q) (P ++ Q) w w' := by
  have H := Lib.hid h
  have HFI := Lib.hid hfi
  have HU := Lib.hid hu
  clear h hfi hu
  go_enter Try.func77, Try.ntmps77
  go_wp2_with (fail)
  refine (dkDrop_some H.out HFI.out HU.out).mono ?_
  rintro e w2 ⟨rfl, h2, hc2⟩
  have HR := Lib.hid (And.intro h2 hc2)
  clear h2 hc2
  go_wp2_with (fail)
  go_end0
  exact ⟨rfl, HR.out⟩

set_option maxHeartbeats 2000000 in
set_option maxRecDepth 100000 in
theorem dkRemove {P Q : List Ent} {nm : ByteArray} {g : Nat} {v : Value} {f : Fl} (h : DkAt w B D M d (P ++ ⟨nm, g, v, f⟩ :: Q)) (ok : d.Ok) (hfi : ∀ x ∈ P, x.nm ≠ nm) (hu : (f.bs.length : Int) ≤ d.used) :
    Calls Try.prog 61 #[pD D, .string nm] w (ChOut (.int .i64 0) d (DelR B D M d (P ++ ⟨nm, g, v, f⟩ :: Q) w P Q f.bs.length) (NoR B D M d (P ++ ⟨nm, g, v, f⟩ :: Q) w)) := by
  have hmf : ∀ (fn : Fn) (first cap : Array Value) (w : World), (Instr.makeFunc fn first cap).run Try.prog w = .ok (.func fn first cap) w := fun _ _ _ _ => rfl
  have hb1 : Below w.heap.size w ((w.alloc (.cells #[pD D] 35)).alloc (.cells #[.string nm] 9)) := ((Below.refl _ _).alloc (Nat.le_refl _) _).alloc (by simp) _
  have h1 := h.below hb1
  have HX1 : Hid (((w.alloc (.cells #[pD D] 35)).alloc (.cells #[.string nm] 9)).heap[w.heap.size]? = some (.cells #[pD D] 35) ∧ ((w.alloc (.cells #[pD D] 35)).alloc (.cells #[.string nm] 9)).heap[w.heap.size + 1]? = some (.cells #[.string nm] 9)) := Lib.hid (by
    have h1 := heap_alloc_new w (.cells #[pD D] 35)
    have h2 := heap_alloc_new (w.alloc (.cells #[pD D] 35)) (.cells #[.string nm] 9)
    refine ⟨?_, by simpa using h2⟩
    rw [((Below.refl (w.alloc (.cells #[pD D] 35)).heap.size (w.alloc (.cells #[pD D] 35))).alloc (Nat.le_refl _) _).block _ (by simp)]
    exact h1)
  have c0' : ((w.alloc (.cells #[pD D] 35)).alloc (.cells #[.string nm] 9)).cell? ⟨D, 0, none⟩ = some (.map (some M)) := h1.cell 0
  have x0 : ((w.alloc (.cells #[pD D] 35)).alloc (.cells #[.string nm] 9)).cell? ⟨w.heap.size, 0, none⟩ = some (pD D) := cell_of_row _ _ 0 _ _ _ HX1.out.1
  have x1 : ((w.alloc (.cells #[pD D] 35)).alloc (.cells #[.string nm] 9)).cell? ⟨w.heap.size + 1, 0, none⟩ = some (.string nm) := cell_of_row _ _ 0 _ _ _ HX1.out.2
  have H1 := Lib.hid h1
  have HB1 := Lib.hid hb1
  have OK := Lib.hid ok
  have HFI := Lib.hid hfi
  have HU := Lib.hid hu
  have HDL : Hid (D < w.heap.size) := Lib.hid h.lt
  clear h h1 hb1 ok hfi hu
  go_enter Try.func61, Try.ntmps61
  go_wp2_with (fail)
  generalize ((w.alloc (.cells #[pD D] 35)).alloc (.cells #[.string nm] 9)) = w1 at *
  have hlk : ∀ n, (Instr.lookup 78 (.map (some M)) (.string nm) false).run Try.prog (w1.drewN n) = .ok (pf g) (w1.drewN n) := fun n => by
    have := run_lookupL kS 78 91 Try.underlying78 (w1.drewN n) M _ (H1.out.below (drawN_below (Below.refl _ _) n)).map nm (.pointer none) (by kernel_rfl) false
    rw [aget_at (e := ⟨nm, g, v, f⟩) HFI.out] at this
    exact this
  go_quiet (fail)
  have hdr : Below w1.heap.size w1 (w1.drewN nq) := drawN_below (Below.refl _ w1) nq
  have H2 := Lib.hid (H1.out.below hdr)
  have HCH2 : Hid (DkCh D M (P ++ ⟨nm, g, v, f⟩ :: Q) (P ++ ⟨nm, g, v, f⟩ :: Q) w (w1.drewN nq)) := Lib.hid ((DkCh.of_below HB1.out).trans (DkCh.of_below hdr))
  have HX2 : Hid ((w1.drewN nq).heap[w.heap.size]? = some (.cells #[pD D] 35) ∧ (w1.drewN nq).heap[w.heap.size + 1]? = some (.cells #[.string nm] 9)) := HX1
  have y0 : (w1.drewN nq).cell? ⟨w.heap.size, 0, none⟩ = some (pD D) := cell_of_row _ _ 0 _ _ _ HX2.out.1
  clear x0 x1 c0' hdr
  generalize w1.drewN nq = w2 at *
  go_wp2_with (fail)
  refine (dkChange H2.out OK.out _ _ okRemove1 (DelR B D M d (P ++ ⟨nm, g, v, f⟩ :: Q) w P Q f.bs.length) (fun w4 h4 hc4 => ?_) (fun w5 h5 => h5.1.cell 3)).mono ?_
  · have hx : w4.cell? ⟨w.heap.size, 0, none⟩ = some (pD D) := cell_of_row _ _ 0 _ _ _ (hc4.row HX2.out.1 (by have := HDL.out; simp only [At1]; omega))
    have hy : w4.cell? ⟨w.heap.size + 1, 0, none⟩ = some (.string nm) := cell_of_row _ _ 0 _ _ _ (hc4.row HX2.out.2 (by have := HDL.out; simp only [At1]; omega))
    refine (dkRemove1 h4 HFI.out ⟨HU.out, OK.out.used.2⟩ _ _ hx hy).mono ?_
    rintro e w5 ⟨rfl, h5, hc5⟩
    exact ⟨rfl, h5, HCH2.out.trans ((DkCh.of1 hc4).trans hc5)⟩
  · rintro e w6 h6
    rcases h6 with ⟨ha, rfl, hr⟩ | ⟨ha, rfl, hr⟩
    · have HR := Lib.hid (And.intro ha hr)
      clear ha hr
      go_wp2_with (fail)
      go_ret
      exact .inl ⟨HR.out.1, rfl, HR.out.2⟩
    · have HR : Hid (d.armedIn = 1 ∧ ((dOdd d = true ∧ DelR B D M d (P ++ ⟨nm, g, v, f⟩ :: Q) w P Q f.bs.length w6) ∨ (dOdd d = false ∧ NoR B D M d (P ++ ⟨nm, g, v, f⟩ :: Q) w w6))) := Lib.hid ⟨ha, hr.imp id (fun h => ⟨h.1, h.2.1, HCH2.out.trans (DkCh.of1 h.2.2)⟩)⟩
      clear ha hr
      go_wp2_with (fail)
      exact ⟨rfl, .inr ⟨HR.out.1, rfl, HR.out.2⟩⟩
end
end Go.Proofs.Ytolomfdommnklaa
