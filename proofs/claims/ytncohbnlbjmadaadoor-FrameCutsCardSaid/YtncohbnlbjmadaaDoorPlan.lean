/- A region that draws its order: operations that only read are taken first, by the cheap step; the others come up one at a time. No condition. -/
import Derived.Test.YtncohbnlbjmadaaDoorHeldMore
import Derived.BigQuiet
namespace Go.Proofs.YtncohbnlbjmadaaDoor
open Go.RowKit

/-- worlds that meet S -/
structure Meets (S : World → Prop) where
  u : World
  h : S u
/-- an operation that yields a value, and enters no function -/
def isV : Op → Bool
  | .move _ | .assign _ | .pick .. | .load .. | .nilCheck _ | .binOp .. | .unOp .. | .convert .. | .fieldAddr .. | .indexAddr .. | .index .. | .field .. | .extract .. | .slice .. | .makeInterface .. => true
  | .call c => match c.callee with
    | .builtin .len => true
    | .builtin .max => true
    | .builtin .min => true
    | _ => false
  | _ => false
def IsVal (s : Sem Next) : Prop := ∀ P w n w', s.run P w = .ok n w' → ∃ u, n = .value u
theorem IsVal.pure (v : Value) : IsVal (pure (.value v)) := fun P w n w' h => by simp at h; exact ⟨_, h.1.symm⟩
theorem IsVal.bind {α : Type} {s : Sem α} {k : α → Sem Next} (hk : ∀ x, IsVal (k x)) : IsVal (s >>= k) := fun P w n w' h => by
  simp only [Sem.run_bind] at h
  cases hs : s.run P w with
  | ok u w1 => rw [hs] at h; exact hk u P w1 n w' h
  | halt x w1 => rw [hs] at h; simp [Result.andThen] at h
theorem IsVal.nil : IsVal (runtimePanic .nilDeref) := fun P w n w' h => by simp [runtimePanic, goPanic] at h
theorem isV_value {o : Oper} {f : Operand → Value} (h : isV o.op = true) : IsVal (execOp f o) := by
  unfold execOp
  cases ho : o.op <;> rw [ho] at h <;> simp only [isV] at h <;> try cases h
  all_goals first
    | exact IsVal.pure _
    | exact IsVal.bind (fun _ => IsVal.pure _)
    | skip
  · dsimp only
    split
    all_goals first
      | exact IsVal.pure _
      | exact IsVal.nil
      | skip
    split
    · exact IsVal.nil
    · refine IsVal.bind (fun _ => IsVal.bind (fun _ => ?_))
      split
      · exact IsVal.bind (fun _ => IsVal.pure _)
      · exact IsVal.pure _
    · exact IsVal.pure _
  · rename_i c
    dsimp only
    have hr : ∀ b, c.callee = .builtin b → resolve f c o.type = pure { target := .builtin b c.argTypes o.type (c.args.map fun | .const _ => true | _ => false), args := c.args.map f } := fun b hb => by
      unfold resolve
      rw [hb]
      rfl
    split at h
    · rename_i hb
      rw [hr _ hb]
      simp only [pure_bind, invoke, builtin]
      exact IsVal.bind (fun _ => IsVal.pure _)
    · rename_i hb
      rw [hr _ hb]
      simp only [pure_bind, invoke, builtin]
      exact IsVal.bind (fun _ => IsVal.pure _)
    · rename_i hb
      rw [hr _ hb]
      simp only [pure_bind, invoke, builtin]
      exact IsVal.bind (fun _ => IsVal.pure _)
    · cases h

/-- the operations of these numbers -/
def pick (l : List Oper) : List Nat → List Oper
  | [] => []
  | i :: r => match l[i]? with
    | some o => o :: pick l r
    | none => pick l r
def setAll (listed : Array Bool) : List Nat → Array Bool
  | [] => listed
  | i :: r => setAll (listed.setIfInBounds i true) r
/-- may these be taken one after another? -/
def takesB (ops : Array Oper) (listed : Array Bool) : List Nat → Bool
  | [] => true
  | i :: r => ((ops[i]?).map (fun o => isV o.op)).getD false && Region.free .any ops listed i && (Region.ready .any ops listed).contains i && takesB ops (listed.setIfInBounds i true) r
/-- a plan: groups that are taken, each with one that comes up behind it; at last a group -/
def planB (ops : Array Oper) (listed : Array Bool) : List (List Nat × Nat) → List Nat → Bool
  | [], last => takesB ops listed last && (Region.ready .any ops (setAll listed last) == [])
  | (qs, i) :: r, last => takesB ops listed qs && (Region.ready .any ops (setAll listed qs) == [i]) && planB ops ((setAll listed qs).setIfInBounds i true) r last
def planN : List (List Nat × Nat) → List Nat → Nat
  | [], last => last.length
  | (qs, _) :: r, last => (planN r last + 1) + qs.length
section
variable {P : Program} {l : List Oper} {Q : Exit → Act → World → Prop} {S : World → Prop}
abbrev InS (S : World → Prop) : World → Prop := fun w => ∃ m : Meets S, w = m.u
theorem takes (hs : Region.noSelect l.toArray = true) (hQ : ∀ c a d v w, Q (.panic c) (a.put (some d) v) w → Q (.panic c) a w) :
    ∀ (qs : List Nat) (fuel : Nat) (listed : Array Bool) (a : Act) (w : World), takesB l.toArray listed qs = true → S w →
      wpQuiet P l.toArray (InS S) (fun a' => wpAnyH P .any l.toArray Q S fuel (setAll listed qs) a' w) (pick l qs) a → wpAnyH P .any l.toArray Q S (fuel + qs.length) listed a w
  | [], fuel, listed, a, w, _, _, h => h
  | i :: r, fuel, listed, a, w, hB, hS, h => by
    simp only [takesB, Bool.and_eq_true, List.getElem?_toArray] at hB
    obtain ⟨⟨⟨h1, h2⟩, h3⟩, h4⟩ := hB
    cases ho : l[i]? with
    | none => rw [ho] at h1; cases h1
    | some o =>
      rw [ho] at h1
      have hv : isV o.op = true := h1
      have hp : pick l (i :: r) = o :: pick l r := by simp only [pick, ho]
      rw [hp] at h
      unfold wpQuiet at h
      have hq : ∀ v c a w, Q (.panic c) (a.put o.dst v) w → Q (.panic c) a w := fun v c a w => by
        cases o.dst with
        | none => exact id
        | some d => exact hQ c a d v w
      have hi : l.toArray[i]? = some o := by rw [List.getElem?_toArray]; exact ho
      have ih := takes hs hQ r fuel (listed.setIfInBounds i true)
      by_cases hw : Region.wanted o (yielded l.toArray a.tmps) = true
      · rw [if_pos hw] at h
        obtain ⟨v, hy, hk⟩ := h
        refine wpAnyH_take (v := v) hi hs h2 h3 (hq v) (.inl ⟨hw, fun W hW => ?_⟩) hS (ih _ w h4 hS hk)
        have := hy W ⟨⟨W, hW⟩, rfl⟩
        unfold Oper.quietAt at this
        cases hr : (execOp a.eval o).run P W with
        | ok n w' =>
          obtain ⟨u, rfl⟩ := isV_value hv P W n w' hr
          rw [hr] at this
          obtain ⟨rfl, rfl⟩ := this
          rfl
        | halt x w' => rw [hr] at this; cases this
      · rw [if_neg hw] at h
        exact wpAnyH_take (v := undef) hi hs h2 h3 (hq undef) (.inr ⟨by simpa using hw, rfl⟩) hS (ih _ w h4 hS h)
/-- what is to be shown of a plan -/
def wpPlan (P : Program) (l : List Oper) (Q : Exit → Act → World → Prop) (S : World → Prop) : List (List Nat × Nat) → List Nat → Act → World → Prop
  | [], last, a, w => wpQuiet P l.toArray (InS S) (fun a' => Q .normal a' w) (pick l last) a
  | (qs, i) :: r, last, a, w => wpQuiet P l.toArray (InS S) (fun a' => ∀ K : Act → World → Prop, Shut (∀ a w, S w → (S w → wpPlan P l Q S r last a w) → K a w) →
      (l[i]?).elim False fun o => if Region.wanted o (yielded l.toArray a'.tmps) = true then Oper.wp P o a' w K Q else K (a'.put o.dst undef) w) (pick l qs) a
theorem wpQuiet_mono {ops : Array Oper} {C : World → Prop} {A B : Act → Prop} (h : ∀ a, A a → B a) : ∀ (os : List Oper) (a : Act), wpQuiet P ops C A os a → wpQuiet P ops C B os a
  | [], a, k => h a k
  | o :: r, a, k => by
    unfold wpQuiet at k ⊢
    split
    · rename_i hw
      rw [if_pos hw] at k
      obtain ⟨v, h1, h2⟩ := k
      exact ⟨v, h1, wpQuiet_mono h r _ h2⟩
    · rename_i hw
      rw [if_neg hw] at k
      exact wpQuiet_mono h r _ k
theorem plan_any (hs : Region.noSelect l.toArray = true) (hQ : ∀ c a d v w, Q (.panic c) (a.put (some d) v) w → Q (.panic c) a w) :
    ∀ (r : List (List Nat × Nat)) (last : List Nat) (listed : Array Bool) (a : Act) (w : World), planB l.toArray listed r last = true → S w → wpPlan P l Q S r last a w → wpAnyH P .any l.toArray Q S (planN r last) listed a w
  | [], last, listed, a, w, hB, hS, h => by
    simp only [planB, Bool.and_eq_true, beq_iff_eq] at hB
    have := takes (P := P) hs hQ last 0 listed a w hB.1 hS (wpQuiet_mono (fun a' ha => wpAnyH_done hB.2 ha 0) _ _ h)
    simpa [planN] using this
  | (qs, i) :: r, last, listed, a, w, hB, hS, h => by
    simp only [planB, Bool.and_eq_true, beq_iff_eq] at hB
    refine takes (P := P) hs hQ qs (planN r last + 1) listed a w hB.1.1 hS (wpQuiet_mono (fun a' ha => ?_) _ _ h)
    refine wpAnyH_ready hB.1.2 (by simp) (fun j hj => ?_)
    rw [List.mem_singleton.1 hj]
    have h1 := fun K hK => ha K hK
    cases ho : l[i]? with
    | none =>
      rw [ho] at h1
      exact (h1 (fun _ _ => True) (fun _ _ _ _ => trivial)).elim
    | some o =>
      rw [ho] at h1
      exact wpOp_step (by rw [List.getElem?_toArray]; exact ho) (fun K hK => h1 K (fun a w hS hW => hK a w ⟨hS, plan_any hs hQ r last _ a w hB.2 hS (hW hS)⟩))
/-- A region by a plan. -/
theorem region_plan {id : Nat} {a : Act} {w : World} (S : World → Prop) (r : List (List Nat × Nat)) (last : List Nat) (hm : P.follows .mixedOrders = true)
    (hB : (Region.noSelect l.toArray && planB l.toArray (Array.replicate l.length false) r last && (planN r last == l.length)) = true) (hQ : ∀ c a d v w, Q (.panic c) (a.put (some d) v) w → Q (.panic c) a w) (hS : S w.drew)
    (h : Nonempty (Meets S) → wpPlan P l Q S r last a w.drew) : (Code.region id l.toArray true).wp P Q a w := by
  simp only [Bool.and_eq_true, beq_iff_eq] at hB
  refine wp_region_held_drew (S := S) hm hS (fun _ => ?_)
  have := plan_any (P := P) hB.1.1 hQ r last (Array.replicate l.length false) a w.drew hB.1.2 hS (h ⟨⟨_, hS⟩⟩)
  rw [hB.2] at this
  simpa using this
end
end Go.Proofs.YtncohbnlbjmadaaDoor
