/- Layer 2: Rename, walked. -/
import Derived.Test.YtolomfdommnklaaDk11
namespace Go.Proofs.Ytolomfdommnklaa
open Go.RowKit Go.MapKept

section
variable {w w' : World} {B D M : Nat} {d d1 : Dk} {F : List Ent}
set_option maxHeartbeats 2000000 in
set_option maxRecDepth 100000 in
theorem dkRename1_same (X Y Z V : Nat) (nm : ByteArray) (hx : w.cell? ⟨X, 0, none⟩ = some (.string nm)) (hy : w.cell? ⟨Y, 0, none⟩ = some (.string nm)) :
    Calls Try.prog 66 #[.pointer (some ⟨X, 0, none⟩), .pointer (some ⟨Y, 0, none⟩), .pointer (some ⟨Z, 0, none⟩), .pointer (some ⟨V, 0, none⟩)] w fun e w' => e = .returned (.tuple #[]) ∧ w = w' := by
  have hnb : (nm.toList == nm.toList) = true := by simp
  go_enter Try.func66, Try.ntmps66
  go_wp2_with (fail)
  refine bodyPost_ret (results_none rfl _ _ _) rfl ?_
  exact ⟨rfl, rfl⟩
set_option maxHeartbeats 2000000 in
set_option maxRecDepth 100000 in
theorem dkRename1 {P Q : List Ent} {nm to : ByteArray} {g : Nat} {v : Value} {f : Fl} (hne : nm ≠ to) (X Y Z V : Nat) (hx : w.cell? ⟨X, 0, none⟩ = some (.string nm)) (hy : w.cell? ⟨Y, 0, none⟩ = some (.string to)) (hz : w.cell? ⟨Z, 0, none⟩ = some (pD D)) (hv : w.cell? ⟨V, 0, none⟩ = some (pf g))
    (hF : ∀ k, DFoot D M F k → k ≠ X ∧ k ≠ Y ∧ k ≠ Z ∧ k ≠ V)
    (hdrop : Calls Try.prog 67 #[pD D, .string to] w fun e w1 => e = .returned (.tuple #[]) ∧ DkAt w1 B D M d1 (P ++ ⟨nm, g, v, f⟩ :: Q) ∧ DkCh D M F (P ++ ⟨nm, g, v, f⟩ :: Q) w w1) (hto : ∀ e ∈ P ++ ⟨nm, g, v, f⟩ :: Q, e.nm ≠ to) :
    Calls Try.prog 66 #[.pointer (some ⟨X, 0, none⟩), .pointer (some ⟨Y, 0, none⟩), .pointer (some ⟨Z, 0, none⟩), .pointer (some ⟨V, 0, none⟩)] w fun e w' => e = .returned (.tuple #[]) ∧ DkAt w' B D M d1 (P ++ Q ++ [⟨to, g, v, f⟩]) ∧ DkCh D M F (P ++ Q ++ [⟨to, g, v, f⟩]) w w' := by
  have hnb : (nm.toList == to.toList) = false := by
    rw [beq_eq_false_iff_ne]
    intro e
    rw [Go.ByteArray.toList_eq, Go.ByteArray.toList_eq] at e
    exact hne (ByteArray.ext (Array.toList_inj.1 e))
  have HDR := Lib.hid hdrop
  have HTO := Lib.hid hto
  have HFX := Lib.hid hF
  have hxl := World.block_lt_of_cell? w _ hx
  have hyl := World.block_lt_of_cell? w _ hy
  have hzl := World.block_lt_of_cell? w _ hz
  have hvl := World.block_lt_of_cell? w _ hv
  have HL := Lib.hid (And.intro hxl (And.intro hyl (And.intro hzl hvl)))
  have HC := Lib.hid (And.intro hx (And.intro hy (And.intro hz hv)))
  have tok1 : Hid True := Lib.hid trivial
  have tok2 : Hid True := Lib.hid trivial
  clear hdrop hto hF hne hxl hyl hzl hvl
  go_enter Try.func66, Try.ntmps66
  go_wp2_with (fail)
  refine HDR.out.mono ?_
  rintro e w1 ⟨rfl, h1, hc1⟩
  have H1 := Lib.hid h1
  have HC1 := Lib.hid hc1
  have keep : ∀ (T : Nat) (x : Value), T < w.heap.size → (∀ k, DFoot D M F k → k ≠ T) → w.cell? ⟨T, 0, none⟩ = some x → w1.cell? ⟨T, 0, none⟩ = some x := fun T x hT hTF hx => by
    rw [World.cell?_of_block (w := w) (a := ⟨T, 0, none⟩) (hc1.ch.block T hT (fun hs => hTF T hs rfl))]; exact hx
  have x0 := keep X _ HL.out.1 (fun k hk => (HFX.out k hk).1) HC.out.1
  have x1 := keep Y _ HL.out.2.1 (fun k hk => (HFX.out k hk).2.1) HC.out.2.1
  have x2 := keep Z _ HL.out.2.2.1 (fun k hk => (HFX.out k hk).2.2.1) HC.out.2.2.1
  have x3 := keep V _ HL.out.2.2.2 (fun k hk => (HFX.out k hk).2.2.2) HC.out.2.2.2
  have c0 : w1.cell? ⟨D, 0, none⟩ = some (.map (some M)) := h1.cell 0
  have HX := Lib.hid (And.intro x0 (And.intro x1 (And.intro x2 x3)))
  clear h1 hc1 keep hx hy hz hv
  go_wp2_with (fail)
  obtain ⟨w2, hrun, hm2, hc2, hz2⟩ := run_updateL kS 78 91 Try.underlying78 w1.drew M (mapL (P ++ ⟨nm, g, v, f⟩ :: Q)) (H1.out.below (Below.refl _ _).drew).map to (pf g)
  go_region
  all_goals
    have hc2' : Ch (fun j => j = M) w1 w2 := (Ch.of_below (S := fun j => j = M) (Below.refl w1.heap.size w1).drew).trans hc2 (fun _ _ h => h)
    have row2 : ∀ (T : Nat) (x : Value), w1.cell? ⟨T, 0, none⟩ = some x → T ≠ M → w2.cell? ⟨T, 0, none⟩ = some x := fun T x hx hT => by
      rw [World.cell?_of_block (w := w1) (a := ⟨T, 0, none⟩) (hc2'.block T (World.block_lt_of_cell? w1 _ hx) hT)]; exact hx
    have hXM := HFX.out M (.inr (.inl rfl))
    have z0 := row2 X _ HX.out.1 (fun e => hXM.1 e.symm)
    have z2 := row2 Z _ HX.out.2.2.1 (fun e => hXM.2.2.1 e.symm)
    have z4 : w2.cell? ⟨D, 0, none⟩ = some (.map (some M)) := row2 D _ (H1.out.cell 0) (fun e => H1.out.neDM e.symm)
    have HM2 := Lib.hid hm2
    have HC2 := Lib.hid hc2'
    clear hrun hm2 hc2 hz2 row2 hXM x0 x1 x2 x3 c0 hc2'
    obtain ⟨w3, hrun, hm3, hc3, hz3⟩ := run_deleteL kS 78 91 0 Try.underlying78 w2.drew M (aset (mapL (P ++ ⟨nm, g, v, f⟩ :: Q)) to (pf g)) (HM2.out.below (Below.refl _ _).drew) nm
    go_wp2_with (fail)
    go_region
    all_goals
      have hc3' : Ch (fun j => j = M) w1 w3 := HC2.out.trans ((Ch.of_below (S := fun j => j = M) (Below.refl w2.heap.size w2).drew).trans hc3 (fun _ _ h => h)) (fun _ _ h => h)
      have hR := H1.out.ren HTO.out hm3 hc3'
      go_end0
      exact ⟨rfl, hR.1, HC1.out.trans hR.2⟩
end
end Go.Proofs.Ytolomfdommnklaa
