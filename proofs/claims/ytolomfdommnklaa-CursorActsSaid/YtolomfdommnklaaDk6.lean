/- Layer 2: drop, Remove, Rename, Truncate, Synced, walked. -/
import Derived.Test.YtolomfdommnklaaDk5
namespace Go.Proofs.Ytolomfdommnklaa
open Go.RowKit Go.MapKept

section
variable {w w' : World} {B D M : Nat} {d : Dk} {F : List Ent}
theorem adel_at {P Q : List Ent} {e : Ent} (h : ∀ x ∈ P, x.nm ≠ e.nm) : adel (mapL (P ++ e :: Q)) e.nm = mapL (P ++ Q) := by
  induction P with
  | nil => simp [mapL, adel]
  | cons a r ih =>
    have := ih (fun x hx => h x (by simp [hx]))
    simp only [mapL, List.cons_append, List.map_cons, adel] at this ⊢
    rw [if_neg (fun e2 => h a (by simp) e2.symm), this]
/-- a file gone -/
theorem DkAt.del {P Q : List Ent} {e : Ent} (h : DkAt w B D M d (P ++ e :: Q)) (hfi : ∀ x ∈ P, x.nm ≠ e.nm) (hm : MapIs (.string) w' M (adel (mapL (P ++ e :: Q)) e.nm)) (hch : Ch (fun k => k = M) w w') :
    DkAt w' B D M d (P ++ Q) ∧ DkCh D M (P ++ e :: Q) (P ++ Q) w w' := by
  rw [adel_at hfi] at hm
  have hsub : (P ++ Q).Sublist (P ++ e :: Q) := List.Sublist.append_left (List.sublist_cons_self e Q) P
  refine ⟨⟨h.hD, h.hM, hch.row h.row h.neDM.symm, hm, fun x hx => ?_, h.apart.sublist hsub, h.names.sublist (hsub.map _)⟩, ⟨(Ch.refl _ w).trans hch (fun k _ hk => .inr (.inl hk)), fun k hk => ?_⟩⟩
  · have h2 := h.files x (hsub.subset hx)
    exact h2.ch hch (h2.neM h.map).1 (fun k hk hs => (h2.neM h.map).2 (by rw [hk, hs]))
  · obtain ⟨x, hx, hk⟩ := hk
    exact .inl ⟨x, hsub.subset hx, hk⟩

set_option maxHeartbeats 1000000 in
set_option maxRecDepth 100000 in
theorem dkDrop_none (h : DkAt w B D M d F) (nm : ByteArray) (hn : ∀ e ∈ F, e.nm ≠ nm) : Calls Try.prog 67 #[pD D, .string nm] w fun e w' => e = .returned (.tuple #[]) ∧ w = w' := by
  have c0' : w.cell? ⟨D, 0, none⟩ = some (.map (some M)) := h.cell 0
  have hz : (zeroValue 91).run Try.prog w = .ok (.pointer none) w := by kernel_rfl
  have HNO := Lib.hid (aget_none hn)
  have H := Lib.hid h
  have tok1 : Hid True := Lib.hid trivial
  clear h hn
  go_enter Try.func67, Try.ntmps67
  go_wp2_with (first | (at_lookup; have _t := tok1; refine wpList_lookupL rfl kS (.tmp 8) (.tmp 9) 78 91 false rfl Try.underlying78 M (mapL F) rfl H.out.map nm rfl (.pointer none) hz ?_; rw [HNO.out]; simp only [Option.getD_none, Bool.false_eq_true, if_false]; clear tok1 _t))
  go_end0
  exact ⟨rfl, rfl⟩
set_option maxHeartbeats 1000000 in
set_option maxRecDepth 100000 in
theorem dkDrop_some {P Q : List Ent} {nm : ByteArray} {g : Nat} {v : Value} {f : Fl} (h : DkAt w B D M d (P ++ ⟨nm, g, v, f⟩ :: Q)) (hfi : ∀ x ∈ P, x.nm ≠ nm) (hu : (f.bs.length : Int) ≤ d.used ∧ d.used ≤ 1073741824) :
    Calls Try.prog 67 #[pD D, .string nm] w fun e w' => e = .returned (.tuple #[]) ∧ DkAt w' B D M { d with used := d.used - (f.bs.length : Int) } (P ++ Q) ∧ DkCh D M (P ++ ⟨nm, g, v, f⟩ :: Q) (P ++ Q) w w' := by
  have c0' : w.cell? ⟨D, 0, none⟩ = some (.map (some M)) := h.cell 0
  have c2 : w.cell? ⟨D, 2, none⟩ = some (.int .i64 d.used) := h.cell 2
  have f2 := h.frozen 2
  have hz : (zeroValue 91).run Try.prog w = .ok (.pointer none) w := by kernel_rfl
  have HYES : Hid (aget (mapL (P ++ ⟨nm, g, v, f⟩ :: Q)) nm = some (pf g)) := Lib.hid (aget_at (e := ⟨nm, g, v, f⟩) hfi)
  have H := Lib.hid h
  have HFA := Lib.hid (h.files ⟨nm, g, v, f⟩ (by simp))
  obtain ⟨A0, c0, hv⟩ := own_form (show w.ownsRow B 5 1 v f.bs.length (u8s f.bs) from HFA.out.own)
  subst hv
  have y0 : w.cell? ⟨g, 0, none⟩ = some (.slice A0 f.bs.length c0) := HFA.out.cell 0
  obtain ⟨z, hzz⟩ : ∃ z : Int, z = d.used - (f.bs.length : Int) := ⟨_, rfl⟩
  have e1 : d.used - (f.bs.length : Int) = z := hzz.symm
  have hu1 := hu.1
  have hu2 := hu.2
  rw [← hzz]
  have HFI := Lib.hid hfi
  have tok1 : Hid True := Lib.hid trivial
  have tok2 : Hid True := Lib.hid trivial
  have H2 : Hid (DkAt (w.setCell ⟨D, 2, none⟩ (.int .i64 z)).drew B D M { d with used := z } (P ++ ⟨nm, g, .slice A0 f.bs.length c0, f⟩ :: Q)) := Lib.hid ((h.nums (d' := { d with used := z }) ((Ch.refl _ w).set1 2 (.int .i64 z)) (heap_set_row h.row _)).below (Below.refl _ _).drew)
  have HCH2 : Hid (DkCh D M (P ++ ⟨nm, g, .slice A0 f.bs.length c0, f⟩ :: Q) (P ++ ⟨nm, g, .slice A0 f.bs.length c0, f⟩ :: Q) w (w.setCell ⟨D, 2, none⟩ (.int .i64 z)).drew) := Lib.hid ((DkCh.of1 ((Ch.refl _ w).set1 2 _)).trans (DkCh.of_below (Below.refl _ _).drew))
  clear h hfi hu hzz
  go_enter Try.func67, Try.ntmps67
  go_wp2_with (first | (at_lookup; have _t := tok1; refine wpList_lookupL rfl kS (.tmp 8) (.tmp 9) 78 91 false rfl Try.underlying78 M (mapL (P ++ ⟨nm, g, .slice A0 f.bs.length c0, f⟩ :: Q)) rfl H.out.map nm rfl (.pointer none) hz ?_; rw [HYES.out]; simp only [Option.getD_some, Bool.false_eq_true, if_false]; clear tok1 _t))
  go_region
  all_goals
    have x0 : (w.setCell ⟨D, 2, none⟩ (.int .i64 z)).drew.cell? ⟨D, 0, none⟩ = some (.map (some M)) := H2.out.cell 0
    generalize (w.setCell ⟨D, 2, none⟩ (.int .i64 z)).drew = w2 at *
    go_wp2_with (have _t := tok2; with_reducible show wpList _ _ _ _ _ _; (refine wpList_deleteL rfl kS (.tmp 28) (.tmp 29) 78 91 rfl Try.underlying78 M (mapL (P ++ ⟨nm, g, .slice A0 f.bs.length c0, f⟩ :: Q)) rfl H2.out.map nm rfl ?_; intro w3 hm3 hc3 hz3; have HDL := Lib.hid (H2.out.del (e := ⟨nm, g, .slice A0 f.bs.length c0, f⟩) HFI.out hm3 hc3); clear tok2 hm3 hc3 hz3 _t))
    go_end0
    exact ⟨rfl, HDL.out.1, HCH2.out.trans HDL.out.2⟩

theorem okRemove1 : FnOk 77 := fun args w => Go.MuLone.run_callFunc_enter Try.func77 (by kernel_rfl) rfl args w
theorem okRename1 : FnOk 66 := fun args w => Go.MuLone.run_callFunc_enter Try.func66 (by kernel_rfl) rfl args w
theorem okTruncate1 : FnOk 78 := fun args w => Go.MuLone.run_callFunc_enter Try.func78 (by kernel_rfl) rfl args w
end
end Go.Proofs.Ytolomfdommnklaa
