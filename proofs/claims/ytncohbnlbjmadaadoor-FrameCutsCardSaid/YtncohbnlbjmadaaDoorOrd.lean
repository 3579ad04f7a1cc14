/- A region that draws its order: an invariant over what has come up. No condition. -/
import Derived.Test.YtncohbnlbjmadaaDoorPlan
namespace Go.Proofs.YtncohbnlbjmadaaDoor
open Go.RowKit

theorem count_set : ∀ (l : List Bool) (i : Nat), l[i]? = some false → (l.set i true).count false + 1 = l.count false
  | [], i, h => by simp at h
  | b :: r, 0, h => by
    simp only [List.getElem?_cons_zero, Option.some.injEq] at h
    subst h
    simp
  | b :: r, i + 1, h => by
    rw [List.getElem?_cons_succ] at h
    have := count_set r i h
    rw [List.set_cons_succ, List.count_cons, List.count_cons]
    omega
theorem wpAnyH_inv {P : Program} {ops : Array Oper} {Q : Exit → Act → World → Prop} {S : World → Prop} {I : Array Bool → Act → World → Prop} (hS : ∀ l a w, I l a w → S w)
    (hsz : ∀ l a w, I l a w → l.size = ops.size)
    (hend : ∀ l a w, I l a w → Region.ready .any ops l = [] → Q .normal a w)
    (hstep : ∀ l a w, I l a w → ∀ i ∈ Region.ready .any ops l, wpOp P ops Q i (fun a' w' => I (l.setIfInBounds i true) a' w') a w) :
    ∀ (fuel : Nat) (l : Array Bool) (a : Act) (w : World), l.toList.count false ≤ fuel → I l a w → wpAnyH P .any ops Q S fuel l a w := by
  have unl : ∀ (l : Array Bool) i, l.size = ops.size → i ∈ Region.ready .any ops l → l.toList[i]? = some false := fun l i hl hi => by
    obtain ⟨h1, o, h2, _⟩ := mem_ready.1 hi
    have hlt : i < l.size := by rw [hl]; exact (Array.getElem?_eq_some_iff.1 h2).1
    rw [Array.getElem?_toList, Array.getElem?_eq_getElem hlt]
    rw [Array.getD_eq_getD_getElem?, Array.getElem?_eq_getElem hlt] at h1
    exact congrArg some h1
  intro fuel
  induction fuel with
  | zero =>
    intro l a w hc h
    have hr : Region.ready .any ops l = [] := by
      rcases hx : Region.ready .any ops l with _ | ⟨i, r⟩
      · rfl
      · have hm := unl l i (hsz l a w h) (by rw [hx]; exact List.mem_cons_self ..)
        have := count_set _ _ hm
        omega
    exact ⟨hr, hend l a w h hr⟩
  | succ fuel ih =>
    intro l a w hc h
    refine ⟨hend l a w h, fun i hi => wpOp_mono (fun a' w' h' => ⟨hS _ _ _ h', ih _ a' w' ?_ h'⟩) (hstep l a w h i hi)⟩
    have hm := unl l i (hsz l a w h) hi
    have := count_set _ _ hm
    rw [Array.toList_setIfInBounds]
    omega
end Go.Proofs.YtncohbnlbjmadaaDoor
