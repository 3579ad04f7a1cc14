/- Layer 2: drop, Remove, Rename, Truncate, Synced, walked. -/
import Derived.Test.YthblbmbefhlbjaaDk5
namespace Go.Proofs.Ythblbmbefhlbjaa
open Go.RowKit Go.MapKept

section
variable {w w' : World} {B D M : Nat} {d : Dk} {F : List Ent}
theorem adel_at {P Q : List Ent} {e : Ent} (h : ∀ x ∈ P, x.nm ≠ e.nm) : adel (mapL (P ++ e :: Q)) e.nm = mapL (P ++ Q) := by
  induction P with
  | nil => simp [mapL, adel]
  | cons a r ih =>
    have := ih (fun x hx => h x (by simp [hx]))
    simp only [mapL, List.cons_append, List.map_cons, adel] at this ⊢
    rw [if_neg (fun e2 => h a (by simp) e2.symm), this]
/-- a file gone -/
theorem DkAt.del {P Q : List Ent} {e : Ent} (h : DkAt w B D M d (P ++ e :: Q)) (hfi : ∀ x ∈ P, x.nm ≠ e.nm) (hm : MapIs (.string) w' M (adel (mapL (P ++ e :: Q)) e.nm)) (hch : Ch (fun k => k = M) w w') :
    DkAt w' B D M d (P ++ Q) ∧ DkCh D M (P ++ e :: Q) (P ++ Q) w w' := by
  rw [adel_at hfi] at hm
  have hsub : (P ++ Q).Sublist (P ++ e :: Q) := List.Sublist.append_left (List.sublist_cons_self e Q) P
  refine ⟨⟨h.hD, h.hM, hch.row h.row h.neDM.symm, hm, fun x hx => ?_, h.apart.sublist hsub, h.names.sublist (hsub.map _)⟩, ⟨(Ch.refl _ w).trans hch (fun k _ hk => .inr (.inl hk)), fun k hk => ?_⟩⟩
  · have h2 := h.files x (hsub.subset hx)
    exact h2.ch hch (h2.neM h.map).1 (fun k hk hs => (h2.neM h.map).2 (by rw [hk, hs]))
  · obtain ⟨x, hx, hk⟩ := hk
    exact .inl ⟨x, hsub.subset hx, hk⟩

theorem okTruncate1 : FnOk 83 := fun args w => Go.MuLone.run_callFunc_enter Try.func83 (by kernel_rfl) rfl args w
end
end Go.Proofs.Ythblbmbefhlbjaa
