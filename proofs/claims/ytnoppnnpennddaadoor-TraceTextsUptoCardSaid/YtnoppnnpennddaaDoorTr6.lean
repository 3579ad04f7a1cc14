/- Layer 19: an output read, walked. -/
import Derived.Test.YtnoppnnpennddaaDoorTr5
namespace Go.Proofs.YtnoppnnpennddaaDoor
open Go.RowKit

abbrev TO : TypeId := 56
abbrev ouV (b : Bool) (dv : Value) : Value := .agg #[.bool b, dv]
abbrev ouC (b : Bool) (dv : Value) : Array Value := #[.bool b, dv]
abbrev backB : List UInt8 := [98, 97, 99, 107, 32]
abbrev onB : List UInt8 := [111, 110, 32]
/-- the output of a line -/
def outD (s : List UInt8) : Option (Bool × List UInt8) :=
  if backB.isPrefixOf s = true then (bytesD (s.drop 5)).map fun l => (true, l)
  else if onB.isPrefixOf s = true then (bytesD (s.drop 3)).map fun l => (false, l) else none
theorem ou_size : (Tryd.prog.info? TO).map (·.size) = some 2 := by kernel_rfl
theorem resultsO {fn : Func} {p u : Tmp} (hf : fn.results = #[.cell p TO, .tmp u]) (tmps : Array Value) (w : World) (g : Nat) (b : Bool) (A : Option Addr) (m c : Nat) (z : Value)
    (hp : tmps.getD p undef = .pointer (some ⟨g, 0, none⟩)) (hz : tmps.getD u undef = z) (h : w.heap[g]? = some (.cells (ouC b (.slice A m c)) TO)) : (results fn tmps).run Tryd.prog w = .ok (.tuple #[ouV b (.slice A m c), z]) w := by
  rw [results_cell_tmp hf, hp, hz]
  simp only [asAddr]
  rw [show (pure (⟨g, 0, none⟩ : Addr) : Sem Addr).run Tryd.prog w = .ok ⟨g, 0, none⟩ w from rfl]
  simp only [Result.andThen_ok]
  rw [run_loadVar_row w g TO TO (ouC b (.slice A m c)) (0, 0) _ h Tryd.underlying56 rfl ou_size]
  rfl
theorem finish_ou {w : World} {g : Nat} {b : Bool} {dv : Value} (h : w.heap[g]? = some (.cells (ouC false nilE) TO)) :
    ((w.setCell ⟨g, 0, none⟩ (.bool b)).setCell ⟨g, 1, none⟩ dv).heap[g]? = some (.cells (ouC b dv) TO) := by
  rw [heap_set_rowT (heap_set_rowT h _) _]
  rfl
/-- what a call gives that answers an output and whether there is one -/
def RetOu (r : Option (Bool × List UInt8)) (w : World) (e : Ending) (w' : World) : Prop :=
  (r = none ∧ e = .returned (.tuple #[ouV false nilE, .bool false]) ∧ Below w.heap.size w w') ∨
  ∃ b l A m c, r = some (b, l) ∧ e = .returned (.tuple #[ouV b (.slice A m c), .bool true]) ∧ Bs w' A m c l ∧ (∀ x, A = some x → w.heap.size ≤ x.block) ∧ Below w.heap.size w w'
theorem drop_le (x : ByteArray) (k : Nat) (hx : x.size ≤ 100000000) : (txt (x.data.toList.drop k)).size ≤ 100000000 := by
  rw [size_txt, List.length_drop]
  have e : x.data.toList.length = x.size := by simp
  omega

set_option maxHeartbeats 4000000 in
set_option maxRecDepth 100000 in
theorem readOutput_ (x : ByteArray) (w : World) (hx : x.size ≤ 100000000) : Calls Tryd.prog 50 #[.string x] w (RetOu (outD x.data.toList) w) := by
  have HZ0 : Hid ((w.alloc (.cells (ouC false nilE) TO)).heap[w.heap.size]? = some (.cells (ouC false nilE) TO)) := Lib.hid (heap_alloc_new w _)
  have HB0 : Hid (Below w.heap.size w (w.alloc (.cells (ouC false nilE) TO))) := Lib.hid ((Below.refl _ w).alloc (Nat.le_refl _) _)
  have HX := Lib.hid hx
  have CP := Lib.hid (fun (p : ByteArray) (W : World) => Tryd.strings_CutPrefix x p W)
  have DL := Lib.hid (fun k => drop_le x k hx)
  obtain ⟨l, hl⟩ : ∃ l, l = x.data.toList := ⟨_, rfl⟩
  rw [← hl] at CP DL ⊢
  clear hl
  go_enter Tryd.func50, Tryd.ntmps50
  go_wp2_with (fail)
  generalize w.alloc (.cells (ouC false nilE) TO) = w0 at *
  obtain ⟨G, hG⟩ : ∃ G, G = w.heap.size := ⟨_, rfl⟩
  have HG := Lib.hid hG
  rw [← hG] at HZ0 ⊢
  clear hG
  refine (CP.out ⟨#[98, 97, 99, 107, 32]⟩ w0).mono ?_
  rintro e w1 ⟨rfl, hw1⟩
  obtain rfl := hw1.symm
  rw [show (⟨#[98, 97, 99, 107, 32]⟩ : ByteArray).data.toList = backB from rfl]
  clear hw1
  have HGL := Lib.hid (Array.getElem?_eq_some_iff.1 HZ0.out).1
  cases hp : Lib.hasPrefix l backB
  · have ht : Lib.trimPrefix l backB = l := by unfold Lib.trimPrefix; rw [hp]; rfl
    rw [ht]
    have HO1 : Hid (outD l = if onB.isPrefixOf l = true then (bytesD (l.drop 3)).map fun l => (false, l) else none) := Lib.hid (by unfold outD; rw [if_neg (by unfold Lib.hasPrefix at hp; rw [hp]; decide)])
    clear hp ht
    go_wp2_with (fail)
    refine (CP.out ⟨#[111, 110, 32]⟩ w0).mono ?_
    rintro e w1 ⟨rfl, hw1⟩
    obtain rfl := hw1.symm
    rw [show (⟨#[111, 110, 32]⟩ : ByteArray).data.toList = onB from rfl]
    clear hw1
    cases hp2 : Lib.hasPrefix l onB
    · as_aux_lemma =>
      have ht : Lib.trimPrefix l onB = l := by unfold Lib.trimPrefix; rw [hp2]; rfl
      rw [ht]
      have HO : Hid (outD l = none) := Lib.hid (by rw [HO1.out, if_neg (by unfold Lib.hasPrefix at hp2; rw [hp2]; decide)])
      have HZF := Lib.hid HZ0.out
      clear hp2 ht
      have z0 : w0.cell? ⟨G, 0, none⟩ = some (.bool false) := cell_of_row _ G 0 _ _ _ HZF.out
      have z1 : w0.cell? ⟨G, 1, none⟩ = some nilE := cell_of_row _ G 1 _ _ _ HZF.out
      have y0 := frozen_row (j := 0) HZF.out
      have y1 := frozen_row (j := 1) HZF.out
      have HBF : Hid (Below w.heap.size w ((w0.setCell ⟨G, 0, none⟩ (.bool false)).setCell ⟨G, 1, none⟩ (nilE))) := Lib.hid (((HB0.out).setCell (p := ⟨G, 0, none⟩) (Nat.le_of_eq HG.out.symm) _).setCell (p := ⟨G, 1, none⟩) (Nat.le_of_eq HG.out.symm) _)
      go_wp2_with (fail)
      refine bodyPost_ret (v := .tuple #[ouV false (nilE), .bool false]) ?_ rfl (.inl ⟨HO.out, rfl, HBF.out⟩)
      exact resultsO Tryd.results50 _ _ G _ _ _ _ _ (by kernel_rfl) (by kernel_rfl) (finish_ou HZF.out)
    · have ht : Lib.trimPrefix l onB = l.drop 3 := by unfold Lib.trimPrefix; rw [hp2]; rfl
      rw [ht]
      have HO : Hid (outD l = (bytesD (l.drop 3)).map fun l => (false, l)) := Lib.hid (by rw [HO1.out, if_pos (by unfold Lib.hasPrefix at hp2; rw [hp2])])
      clear hp2 ht
      go_wp2_with (fail)
      refine (bytes_ (txt (l.drop 3)) w0 (DL.out 3)).mono ?_
      rintro e w2 ⟨A5, m5, c5, rfl, hB5, hlow, hb5⟩
      skip
      have HB2 := Lib.hid (HB0.out.trans (hb5.mono HB0.out.size))
      have HZF := Lib.hid ((hb5.block _ HGL.out).trans HZ0.out)
      have HLOW : Hid (∀ b, A5 = some b → G < b.block) := Lib.hid (fun b hb => Nat.lt_of_lt_of_le HGL.out (hlow b hb))
      have hr : ∃ r, r = bytesD (l.drop 3) := ⟨_, rfl⟩
      obtain ⟨r, hr⟩ := hr
      replace hB5 : Bs w2 A5 m5 c5 ((bytesD (l.drop 3)).getD []) := hB5
      skip
      rw [show (bytesD (txt (l.drop 3)).data.toList) = bytesD (l.drop 3) from rfl]
      rw [← hr] at HO hB5 ⊢
      have HB5 := Lib.hid hB5
      clear hb5 hlow hB5 hr
      rcases r with _ | l5
      · as_aux_lemma =>
        have z0 : w2.cell? ⟨G, 0, none⟩ = some (.bool false) := cell_of_row _ G 0 _ _ _ HZF.out
        have z1 : w2.cell? ⟨G, 1, none⟩ = some nilE := cell_of_row _ G 1 _ _ _ HZF.out
        have y0 := frozen_row (j := 0) HZF.out
        have y1 := frozen_row (j := 1) HZF.out
        have HBF : Hid (Below w.heap.size w ((w2.setCell ⟨G, 0, none⟩ (.bool false)).setCell ⟨G, 1, none⟩ (nilE))) := Lib.hid (((HB2.out).setCell (p := ⟨G, 0, none⟩) (Nat.le_of_eq HG.out.symm) _).setCell (p := ⟨G, 1, none⟩) (Nat.le_of_eq HG.out.symm) _)
        go_wp2_with (fail)
        refine bodyPost_ret (v := .tuple #[ouV false (nilE), .bool false]) ?_ rfl (.inl ⟨by rw [HO.out]; rfl, rfl, HBF.out⟩)
        exact resultsO Tryd.results50 _ _ G _ _ _ _ _ (by kernel_rfl) (by kernel_rfl) (finish_ou HZF.out)
      · as_aux_lemma =>
        have z0 : w2.cell? ⟨G, 0, none⟩ = some (.bool false) := cell_of_row _ G 0 _ _ _ HZF.out
        have z1 : w2.cell? ⟨G, 1, none⟩ = some nilE := cell_of_row _ G 1 _ _ _ HZF.out
        have y0 := frozen_row (j := 0) HZF.out
        have y1 := frozen_row (j := 1) HZF.out
        have HBF : Hid (Below w.heap.size w ((w2.setCell ⟨G, 0, none⟩ (.bool false)).setCell ⟨G, 1, none⟩ (.slice A5 m5 c5))) := Lib.hid (((HB2.out).setCell (p := ⟨G, 0, none⟩) (Nat.le_of_eq HG.out.symm) _).setCell (p := ⟨G, 1, none⟩) (Nat.le_of_eq HG.out.symm) _)
        go_wp2_with (fail)
        refine bodyPost_ret (v := .tuple #[ouV false (.slice A5 m5 c5), .bool true]) ?_ rfl (.inr ⟨_, _, _, _, _, by rw [HO.out]; rfl, rfl, ((HB5.out.setOther (fun b hb => Nat.ne_of_gt (HLOW.out b hb)) 0 _).setOther (fun b hb => Nat.ne_of_gt (HLOW.out b hb)) 1 _), (fun b hb => HG.out ▸ Nat.le_of_lt (HLOW.out b hb)), HBF.out⟩)
        exact resultsO Tryd.results50 _ _ G _ _ _ _ _ (by kernel_rfl) (by kernel_rfl) (finish_ou HZF.out)
  · have ht : Lib.trimPrefix l backB = l.drop 5 := by unfold Lib.trimPrefix; rw [hp]; rfl
    rw [ht]
    have HO : Hid (outD l = (bytesD (l.drop 5)).map fun l => (true, l)) := Lib.hid (by unfold outD; rw [if_pos (by unfold Lib.hasPrefix at hp; rw [hp])])
    clear hp ht
    go_wp2_with (fail)
    refine (bytes_ (txt (l.drop 5)) w0 (DL.out 5)).mono ?_
    rintro e w2 ⟨A5, m5, c5, rfl, hB5, hlow, hb5⟩
    skip
    have HB2 := Lib.hid (HB0.out.trans (hb5.mono HB0.out.size))
    have HZF := Lib.hid ((hb5.block _ HGL.out).trans HZ0.out)
    have HLOW : Hid (∀ b, A5 = some b → G < b.block) := Lib.hid (fun b hb => Nat.lt_of_lt_of_le HGL.out (hlow b hb))
    have hr : ∃ r, r = bytesD (l.drop 5) := ⟨_, rfl⟩
    obtain ⟨r, hr⟩ := hr
    replace hB5 : Bs w2 A5 m5 c5 ((bytesD (l.drop 5)).getD []) := hB5
    skip
    rw [show (bytesD (txt (l.drop 5)).data.toList) = bytesD (l.drop 5) from rfl]
    rw [← hr] at HO hB5 ⊢
    have HB5 := Lib.hid hB5
    clear hb5 hlow hB5 hr
    rcases r with _ | l5
    · as_aux_lemma =>
      have z0 : w2.cell? ⟨G, 0, none⟩ = some (.bool false) := cell_of_row _ G 0 _ _ _ HZF.out
      have z1 : w2.cell? ⟨G, 1, none⟩ = some nilE := cell_of_row _ G 1 _ _ _ HZF.out
      have y0 := frozen_row (j := 0) HZF.out
      have y1 := frozen_row (j := 1) HZF.out
      have HBF : Hid (Below w.heap.size w ((w2.setCell ⟨G, 0, none⟩ (.bool false)).setCell ⟨G, 1, none⟩ (nilE))) := Lib.hid (((HB2.out).setCell (p := ⟨G, 0, none⟩) (Nat.le_of_eq HG.out.symm) _).setCell (p := ⟨G, 1, none⟩) (Nat.le_of_eq HG.out.symm) _)
      go_wp2_with (fail)
      refine bodyPost_ret (v := .tuple #[ouV false (nilE), .bool false]) ?_ rfl (.inl ⟨by rw [HO.out]; rfl, rfl, HBF.out⟩)
      exact resultsO Tryd.results50 _ _ G _ _ _ _ _ (by kernel_rfl) (by kernel_rfl) (finish_ou HZF.out)
    · as_aux_lemma =>
      have z0 : w2.cell? ⟨G, 0, none⟩ = some (.bool false) := cell_of_row _ G 0 _ _ _ HZF.out
      have z1 : w2.cell? ⟨G, 1, none⟩ = some nilE := cell_of_row _ G 1 _ _ _ HZF.out
      have y0 := frozen_row (j := 0) HZF.out
      have y1 := frozen_row (j := 1) HZF.out
      have HBF : Hid (Below w.heap.size w ((w2.setCell ⟨G, 0, none⟩ (.bool true)).setCell ⟨G, 1, none⟩ (.slice A5 m5 c5))) := Lib.hid (((HB2.out).setCell (p := ⟨G, 0, none⟩) (Nat.le_of_eq HG.out.symm) _).setCell (p := ⟨G, 1, none⟩) (Nat.le_of_eq HG.out.symm) _)
      go_wp2_with (fail)
      refine bodyPost_ret (v := .tuple #[ouV true (.slice A5 m5 c5), .bool true]) ?_ rfl (.inr ⟨_, _, _, _, _, by rw [HO.out]; rfl, rfl, ((HB5.out.setOther (fun b hb => Nat.ne_of_gt (HLOW.out b hb)) 0 _).setOther (fun b hb => Nat.ne_of_gt (HLOW.out b hb)) 1 _), (fun b hb => HG.out ▸ Nat.le_of_lt (HLOW.out b hb)), HBF.out⟩)
      exact resultsO Tryd.results50 _ _ G _ _ _ _ _ (by kernel_rfl) (by kernel_rfl) (finish_ou HZF.out)
end Go.Proofs.YtnoppnnpennddaaDoor
