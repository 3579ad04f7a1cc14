/- Layer 2: Rename, walked to its end. -/
import Derived.Test.YtolomfdommnklaaDk12
namespace Go.Proofs.Ytolomfdommnklaa
open Go.RowKit Go.MapKept

section
variable {w w' : World} {B D M : Nat} {d d1 : Dk}
theorem boxes3 (w : World) (D : Nat) (nm to : ByteArray) : Below w.heap.size w (((w.alloc (.cells #[pD D] 35)).alloc (.cells #[.string nm] 9)).alloc (.cells #[.string to] 9)) ∧ (((w.alloc (.cells #[pD D] 35)).alloc (.cells #[.string nm] 9)).alloc (.cells #[.string to] 9)).heap[w.heap.size]? = some (.cells #[pD D] 35) ∧ (((w.alloc (.cells #[pD D] 35)).alloc (.cells #[.string nm] 9)).alloc (.cells #[.string to] 9)).heap[w.heap.size + 1]? = some (.cells #[.string nm] 9) ∧ (((w.alloc (.cells #[pD D] 35)).alloc (.cells #[.string nm] 9)).alloc (.cells #[.string to] 9)).heap[w.heap.size + 1 + 1]? = some (.cells #[.string to] 9) ∧ (((w.alloc (.cells #[pD D] 35)).alloc (.cells #[.string nm] 9)).alloc (.cells #[.string to] 9)).heap.size = w.heap.size + 1 + 1 + 1 := by
  refine ⟨(((Below.refl _ _).alloc (Nat.le_refl _) _).alloc (by simp) _).alloc (by simp; omega) _, ?_, ?_, ?_, by simp⟩
  all_goals
    simp only [World.alloc, Array.getElem?_push, Array.size_push]
  · rw [if_neg (by omega), if_neg (by omega), if_pos trivial]
  · rw [if_neg (by omega), if_pos trivial]
  · rw [if_pos trivial]
def RenR (B D M : Nat) (d1 : Dk) (F F' : List Ent) (w w' : World) : Prop := DkAt w' B D M d1 F' ∧ DkCh D M F F' w w'

set_option maxHeartbeats 4000000 in
set_option maxRecDepth 100000 in
theorem dkRename_same {P Q : List Ent} {nm to : ByteArray} {g : Nat} {v : Value} {f : Fl} (h : DkAt w B D M d (P ++ ⟨nm, g, v, f⟩ :: Q)) (ok : d.Ok) (hfi : ∀ x ∈ P, x.nm ≠ nm) (hs : to.size ≤ 140737488355328) (hn : nameD to = true) (hto : nm = to) :
    Calls Try.prog 44 #[pD D, .string nm, .string to] w (ChOut (.int .i64 0) d (RenR B D M d.begin (P ++ ⟨nm, g, v, f⟩ :: Q) (P ++ ⟨nm, g, v, f⟩ :: Q) w) (NoR B D M d (P ++ ⟨nm, g, v, f⟩ :: Q) w)) := by
  have hmf : ∀ (fn : Fn) (first cap : Array Value) (w : World), (Instr.makeFunc fn first cap).run Try.prog w = .ok (.func fn first cap) w := fun _ _ _ _ => rfl
  obtain ⟨hb1, hr0, hr1, hr2, hsz⟩ := boxes3 w D nm to
  have h1 := h.below hb1
  have H1 := Lib.hid h1
  have HB1 := Lib.hid hb1
  have HR1 := Lib.hid (And.intro hr0 (And.intro hr1 (And.intro hr2 hsz)))
  have OK := Lib.hid ok
  have HFI := Lib.hid hfi
  have HDL : Hid (∀ k, DFoot D M (P ++ ⟨nm, g, v, f⟩ :: Q) k → k < w.heap.size) := Lib.hid (fun k hk => (h.foot_lt hk).2)
  have c0' : (((w.alloc (.cells #[pD D] 35)).alloc (.cells #[.string nm] 9)).alloc (.cells #[.string to] 9)).cell? ⟨D, 0, none⟩ = some (.map (some M)) := h1.cell 0
  have x0 : (((w.alloc (.cells #[pD D] 35)).alloc (.cells #[.string nm] 9)).alloc (.cells #[.string to] 9)).cell? ⟨w.heap.size, 0, none⟩ = some (pD D) := cell_of_row _ _ 0 _ _ _ hr0
  have x1 : (((w.alloc (.cells #[pD D] 35)).alloc (.cells #[.string nm] 9)).alloc (.cells #[.string to] 9)).cell? ⟨w.heap.size + 1, 0, none⟩ = some (.string nm) := cell_of_row _ _ 0 _ _ _ hr1
  have x2 : (((w.alloc (.cells #[pD D] 35)).alloc (.cells #[.string nm] 9)).alloc (.cells #[.string to] 9)).cell? ⟨w.heap.size + 1 + 1, 0, none⟩ = some (.string to) := cell_of_row _ _ 0 _ _ _ hr2
  have HN := Lib.hid hn
  have HTO := Lib.hid hto
  clear hn hto
  clear h h1 hb1 hr0 hr1 hr2 hsz ok hfi
  go_enter Try.func44, Try.ntmps44
  go_wp2_with (fail)
  generalize (((w.alloc (.cells #[pD D] 35)).alloc (.cells #[.string nm] 9)).alloc (.cells #[.string to] 9)) = w1 at *
  have hs1 := HR1.out.2.2.2
  have hbx : Below w1.heap.size w1 (w1.alloc (.cells #[.pointer none] 91)) := (Below.refl _ _).alloc (Nat.le_refl _) _
  have lkp : ∀ W, Below w1.heap.size w1 W → (Instr.lookup 78 (.map (some M)) (.string nm) false).run Try.prog W = .ok (pf g) W := fun W hb => by
    have := run_lookupL kS 78 91 Try.underlying78 W M _ (H1.out.below hb).map nm (.pointer none) (by kernel_rfl) false
    rw [aget_at (e := ⟨nm, g, v, f⟩) HFI.out] at this
    exact this
  have keep : ∀ (W : World) (T : Addr) (x : Value), Below w1.heap.size w1 W → w1.cell? T = some x → W.cell? T = some x := fun W T x hb hx => (hb.cell (p := T) (World.block_lt_of_cell? w1 T hx)).trans hx
  have hlk1 := lkp _ (Below.refl w1.heap.size w1).drew
  have hlk2 := lkp _ hbx.drew
  have z0 := keep _ _ _ hbx x0
  have z1 := keep _ _ _ hbx x1
  have z2 := keep _ _ _ hbx x2
  have z3 := keep _ _ _ hbx c0'
  have hDl := H1.out.lt
  clear lkp keep
  have hb2 : Below w1.heap.size w1 (w1.alloc (.cells #[pf g] 91)).drew := ((Below.refl _ _).alloc (Nat.le_refl _) _).drew
  have H2 := Lib.hid (H1.out.below hb2)
  have HB2 : Hid (Below w.heap.size w (w1.alloc (.cells #[pf g] 91)).drew) := Lib.hid (HB1.out.trans (hb2.mono HB1.out.size))
  have HR2 : Hid ((w1.alloc (.cells #[pf g] 91)).drew.heap[w.heap.size]? = some (.cells #[pD D] 35) ∧ (w1.alloc (.cells #[pf g] 91)).drew.heap[w.heap.size + 1]? = some (.cells #[.string nm] 9) ∧ (w1.alloc (.cells #[pf g] 91)).drew.heap[w.heap.size + 1 + 1]? = some (.cells #[.string to] 9) ∧ (w1.alloc (.cells #[pf g] 91)).drew.heap[w.heap.size + 1 + 1 + 1]? = some (.cells #[pf g] 91)) := Lib.hid (by
    have h3 := heap_alloc_new w1 (.cells #[pf g] 91)
    rw [hs1] at h3
    exact ⟨(hb2.block _ (by omega)).trans HR1.out.1, (hb2.block _ (by omega)).trans HR1.out.2.1, (hb2.block _ (by omega)).trans HR1.out.2.2.1, h3⟩)
  clear hb2
  go_region
  all_goals
    clear x0 x1 x2 c0' z0 z1 z2 z3 hlk1 hlk2 hbx hs1 hDl
    generalize (w1.alloc (.cells #[pf g] 91)).drew = w2 at *
    have x0 : w2.cell? ⟨w.heap.size, 0, none⟩ = some (pD D) := cell_of_row _ _ 0 _ _ _ HR2.out.1
    have x2 : w2.cell? ⟨w.heap.size + 1 + 1, 0, none⟩ = some (.string to) := cell_of_row _ _ 0 _ _ _ HR2.out.2.2.1
    have x3 : w2.cell? ⟨w.heap.size + 1 + 1 + 1, 0, none⟩ = some (pf g) := cell_of_row _ _ 0 _ _ _ HR2.out.2.2.2
    go_wp2_with (fail)
    refine (fnRight to w2 hs).mono ?_
    rintro e w3 ⟨rfl, rfl⟩
    rw [HN.out]
    go_wp2_with (fail)
    refine (dkChange H2.out OK.out _ _ okRename1 (RenR B D M d.begin (P ++ ⟨nm, g, v, f⟩ :: Q) (P ++ ⟨nm, g, v, f⟩ :: Q) w) (fun w4 h4 hc4 => ?_) (fun w5 h5 => h5.1.cell 3)).mono ?_
    · have hx : w4.cell? ⟨w.heap.size + 1, 0, none⟩ = some (.string nm) := cell_of_row _ _ 0 _ _ _ (hc4.row HR2.out.2.1 (fun e => by have := HDL.out D (.inl rfl); omega))
      have hy : w4.cell? ⟨w.heap.size + 1 + 1, 0, none⟩ = some (.string to) := cell_of_row _ _ 0 _ _ _ (hc4.row HR2.out.2.2.1 (fun e => by have := HDL.out D (.inl rfl); omega))
      have hz : w4.cell? ⟨w.heap.size, 0, none⟩ = some (pD D) := cell_of_row _ _ 0 _ _ _ (hc4.row HR2.out.1 (fun e => by have := HDL.out D (.inl rfl); omega))
      have hv : w4.cell? ⟨w.heap.size + 1 + 1 + 1, 0, none⟩ = some (pf g) := cell_of_row _ _ 0 _ _ _ (hc4.row HR2.out.2.2.2 (fun e => by have := HDL.out D (.inl rfl); omega))
      have hto := HTO.out
      subst hto
      refine (dkRename1_same _ _ _ _ nm hx hy).mono ?_
      rintro e w5 ⟨rfl, rfl⟩
      exact ⟨rfl, h4, (DkCh.of_below HB2.out).trans (DkCh.of1 hc4)⟩
    · rintro e w6 h6
      rcases h6 with ⟨ha, rfl, hr⟩ | ⟨ha, rfl, hr⟩
      · have HR := Lib.hid (And.intro ha hr)
        clear ha hr
        go_wp2_with (fail)
        go_ret
        exact .inl ⟨HR.out.1, rfl, HR.out.2⟩
      · have HR : Hid (d.armedIn = 1 ∧ ((dOdd d = true ∧ (RenR B D M d.begin (P ++ ⟨nm, g, v, f⟩ :: Q) (P ++ ⟨nm, g, v, f⟩ :: Q) w) w6) ∨ (dOdd d = false ∧ NoR B D M d (P ++ ⟨nm, g, v, f⟩ :: Q) w w6))) := Lib.hid ⟨ha, hr.imp id (fun h => ⟨h.1, h.2.1, (DkCh.of_below HB2.out).trans (DkCh.of1 h.2.2)⟩)⟩
        clear ha hr
        go_wp2_with (fail)
        exact ⟨rfl, .inr ⟨HR.out.1, rfl, HR.out.2⟩⟩

set_option maxHeartbeats 4000000 in
set_option maxRecDepth 100000 in
theorem dkRename {P Q : List Ent} {nm to : ByteArray} {g : Nat} {v : Value} {f : Fl} (h : DkAt w B D M d (P ++ ⟨nm, g, v, f⟩ :: Q)) (ok : d.Ok) (hfi : ∀ x ∈ P, x.nm ≠ nm) (hs : to.size ≤ 140737488355328) (hn : nameD to = true) {P1 Q1 : List Ent} (hne : nm ≠ to) (hops : d1.ops = d.ops + 1) (hdrop : ∀ w4, DkAt w4 B D M d.begin (P ++ ⟨nm, g, v, f⟩ :: Q) → Calls Try.prog 67 #[pD D, .string to] w4 fun e w1 => e = .returned (.tuple #[]) ∧ DkAt w1 B D M d1 (P1 ++ ⟨nm, g, v, f⟩ :: Q1) ∧ DkCh D M (P ++ ⟨nm, g, v, f⟩ :: Q) (P1 ++ ⟨nm, g, v, f⟩ :: Q1) w4 w1) (hto : ∀ e ∈ P1 ++ ⟨nm, g, v, f⟩ :: Q1, e.nm ≠ to) :
    Calls Try.prog 44 #[pD D, .string nm, .string to] w (ChOut (.int .i64 0) d (RenR B D M d1 (P ++ ⟨nm, g, v, f⟩ :: Q) (P1 ++ Q1 ++ [⟨to, g, v, f⟩]) w) (NoR B D M d (P ++ ⟨nm, g, v, f⟩ :: Q) w)) := by
  have hmf : ∀ (fn : Fn) (first cap : Array Value) (w : World), (Instr.makeFunc fn first cap).run Try.prog w = .ok (.func fn first cap) w := fun _ _ _ _ => rfl
  obtain ⟨hb1, hr0, hr1, hr2, hsz⟩ := boxes3 w D nm to
  have h1 := h.below hb1
  have H1 := Lib.hid h1
  have HB1 := Lib.hid hb1
  have HR1 := Lib.hid (And.intro hr0 (And.intro hr1 (And.intro hr2 hsz)))
  have OK := Lib.hid ok
  have HFI := Lib.hid hfi
  have HDL : Hid (∀ k, DFoot D M (P ++ ⟨nm, g, v, f⟩ :: Q) k → k < w.heap.size) := Lib.hid (fun k hk => (h.foot_lt hk).2)
  have c0' : (((w.alloc (.cells #[pD D] 35)).alloc (.cells #[.string nm] 9)).alloc (.cells #[.string to] 9)).cell? ⟨D, 0, none⟩ = some (.map (some M)) := h1.cell 0
  have x0 : (((w.alloc (.cells #[pD D] 35)).alloc (.cells #[.string nm] 9)).alloc (.cells #[.string to] 9)).cell? ⟨w.heap.size, 0, none⟩ = some (pD D) := cell_of_row _ _ 0 _ _ _ hr0
  have x1 : (((w.alloc (.cells #[pD D] 35)).alloc (.cells #[.string nm] 9)).alloc (.cells #[.string to] 9)).cell? ⟨w.heap.size + 1, 0, none⟩ = some (.string nm) := cell_of_row _ _ 0 _ _ _ hr1
  have x2 : (((w.alloc (.cells #[pD D] 35)).alloc (.cells #[.string nm] 9)).alloc (.cells #[.string to] 9)).cell? ⟨w.heap.size + 1 + 1, 0, none⟩ = some (.string to) := cell_of_row _ _ 0 _ _ _ hr2
  have HN := Lib.hid hn
  have HNE := Lib.hid hne
  have HOPS := Lib.hid hops
  have HDR := Lib.hid hdrop
  have HTO := Lib.hid hto
  clear hn hne hops hdrop hto
  clear h h1 hb1 hr0 hr1 hr2 hsz ok hfi
  go_enter Try.func44, Try.ntmps44
  go_wp2_with (fail)
  generalize (((w.alloc (.cells #[pD D] 35)).alloc (.cells #[.string nm] 9)).alloc (.cells #[.string to] 9)) = w1 at *
  have hs1 := HR1.out.2.2.2
  have hbx : Below w1.heap.size w1 (w1.alloc (.cells #[.pointer none] 91)) := (Below.refl _ _).alloc (Nat.le_refl _) _
  have lkp : ∀ W, Below w1.heap.size w1 W → (Instr.lookup 78 (.map (some M)) (.string nm) false).run Try.prog W = .ok (pf g) W := fun W hb => by
    have := run_lookupL kS 78 91 Try.underlying78 W M _ (H1.out.below hb).map nm (.pointer none) (by kernel_rfl) false
    rw [aget_at (e := ⟨nm, g, v, f⟩) HFI.out] at this
    exact this
  have keep : ∀ (W : World) (T : Addr) (x : Value), Below w1.heap.size w1 W → w1.cell? T = some x → W.cell? T = some x := fun W T x hb hx => (hb.cell (p := T) (World.block_lt_of_cell? w1 T hx)).trans hx
  have hlk1 := lkp _ (Below.refl w1.heap.size w1).drew
  have hlk2 := lkp _ hbx.drew
  have z0 := keep _ _ _ hbx x0
  have z1 := keep _ _ _ hbx x1
  have z2 := keep _ _ _ hbx x2
  have z3 := keep _ _ _ hbx c0'
  have hDl := H1.out.lt
  clear lkp keep
  have hb2 : Below w1.heap.size w1 (w1.alloc (.cells #[pf g] 91)).drew := ((Below.refl _ _).alloc (Nat.le_refl _) _).drew
  have H2 := Lib.hid (H1.out.below hb2)
  have HB2 : Hid (Below w.heap.size w (w1.alloc (.cells #[pf g] 91)).drew) := Lib.hid (HB1.out.trans (hb2.mono HB1.out.size))
  have HR2 : Hid ((w1.alloc (.cells #[pf g] 91)).drew.heap[w.heap.size]? = some (.cells #[pD D] 35) ∧ (w1.alloc (.cells #[pf g] 91)).drew.heap[w.heap.size + 1]? = some (.cells #[.string nm] 9) ∧ (w1.alloc (.cells #[pf g] 91)).drew.heap[w.heap.size + 1 + 1]? = some (.cells #[.string to] 9) ∧ (w1.alloc (.cells #[pf g] 91)).drew.heap[w.heap.size + 1 + 1 + 1]? = some (.cells #[pf g] 91)) := Lib.hid (by
    have h3 := heap_alloc_new w1 (.cells #[pf g] 91)
    rw [hs1] at h3
    exact ⟨(hb2.block _ (by omega)).trans HR1.out.1, (hb2.block _ (by omega)).trans HR1.out.2.1, (hb2.block _ (by omega)).trans HR1.out.2.2.1, h3⟩)
  clear hb2
  go_region
  all_goals
    clear x0 x1 x2 c0' z0 z1 z2 z3 hlk1 hlk2 hbx hs1 hDl
    generalize (w1.alloc (.cells #[pf g] 91)).drew = w2 at *
    have x0 : w2.cell? ⟨w.heap.size, 0, none⟩ = some (pD D) := cell_of_row _ _ 0 _ _ _ HR2.out.1
    have x2 : w2.cell? ⟨w.heap.size + 1 + 1, 0, none⟩ = some (.string to) := cell_of_row _ _ 0 _ _ _ HR2.out.2.2.1
    have x3 : w2.cell? ⟨w.heap.size + 1 + 1 + 1, 0, none⟩ = some (pf g) := cell_of_row _ _ 0 _ _ _ HR2.out.2.2.2
    go_wp2_with (fail)
    refine (fnRight to w2 hs).mono ?_
    rintro e w3 ⟨rfl, rfl⟩
    rw [HN.out]
    go_wp2_with (fail)
    refine (dkChange H2.out OK.out _ _ okRename1 (RenR B D M d1 (P ++ ⟨nm, g, v, f⟩ :: Q) (P1 ++ Q1 ++ [⟨to, g, v, f⟩]) w) (fun w4 h4 hc4 => ?_) (fun w5 h5 => by have := h5.1.cell 3; rw [this]; exact congrArg (fun z => some (Value.int .i64 z)) HOPS.out)).mono ?_
    · have hx : w4.cell? ⟨w.heap.size + 1, 0, none⟩ = some (.string nm) := cell_of_row _ _ 0 _ _ _ (hc4.row HR2.out.2.1 (fun e => by have := HDL.out D (.inl rfl); omega))
      have hy : w4.cell? ⟨w.heap.size + 1 + 1, 0, none⟩ = some (.string to) := cell_of_row _ _ 0 _ _ _ (hc4.row HR2.out.2.2.1 (fun e => by have := HDL.out D (.inl rfl); omega))
      have hz : w4.cell? ⟨w.heap.size, 0, none⟩ = some (pD D) := cell_of_row _ _ 0 _ _ _ (hc4.row HR2.out.1 (fun e => by have := HDL.out D (.inl rfl); omega))
      have hv : w4.cell? ⟨w.heap.size + 1 + 1 + 1, 0, none⟩ = some (pf g) := cell_of_row _ _ 0 _ _ _ (hc4.row HR2.out.2.2.2 (fun e => by have := HDL.out D (.inl rfl); omega))
      refine (dkRename1 (F := P ++ ⟨nm, g, v, f⟩ :: Q) HNE.out _ _ _ _ hx hy hz hv (fun k hk => by have := HDL.out k hk; omega) (HDR.out w4 h4) HTO.out).mono ?_
      rintro e w5 ⟨rfl, h5, hc5⟩
      exact ⟨rfl, h5, (DkCh.of_below HB2.out).trans ((DkCh.of1 hc4).trans hc5)⟩
    · rintro e w6 h6
      rcases h6 with ⟨ha, rfl, hr⟩ | ⟨ha, rfl, hr⟩
      · have HR := Lib.hid (And.intro ha hr)
        clear ha hr
        go_wp2_with (fail)
        go_ret
        exact .inl ⟨HR.out.1, rfl, HR.out.2⟩
      · have HR : Hid (d.armedIn = 1 ∧ ((dOdd d = true ∧ (RenR B D M d1 (P ++ ⟨nm, g, v, f⟩ :: Q) (P1 ++ Q1 ++ [⟨to, g, v, f⟩]) w) w6) ∨ (dOdd d = false ∧ NoR B D M d (P ++ ⟨nm, g, v, f⟩ :: Q) w w6))) := Lib.hid ⟨ha, hr.imp id (fun h => ⟨h.1, h.2.1, (DkCh.of_below HB2.out).trans (DkCh.of1 h.2.2)⟩)⟩
        clear ha hr
        go_wp2_with (fail)
        exact ⟨rfl, .inr ⟨HR.out.1, rfl, by have h := HR.out.2; rw [List.append_assoc] at h; exact h⟩⟩
end
end Go.Proofs.Ytolomfdommnklaa
