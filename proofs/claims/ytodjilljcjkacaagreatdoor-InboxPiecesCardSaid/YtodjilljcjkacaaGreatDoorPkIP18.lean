/- InboxPieces: whatever the input, the law's call returns true, and the arguments read afterwards as before. No condition of ours. -/
import Derived.Test.YtodjilljcjkacaaGreatDoorPkIP17
import Derived.BigQuiet
import Derived.ShutString
import Derived.ChangeOld
import Derived.SizedLaws
import Derived.Deep.DeepHandedRow
import Derived.OpenShut
import Derived.SliceStrings
import Derived.Test.YtodjilljcjkacaaGreatDoorCards
import Derived.Test.YtodjilljcjkacaaGreatDoorTie
import Derived.Lib.LaidTab

/- Layer 17: an inbox on a new log that was fed some bytes, in whatever pieces. -/
namespace Go.Proofs.YtodjilljcjkacaaGreatDoor
open Go.RowKit Go.MapKept

theorem feedM_front (X : List (List UInt8)) : ∀ (Ms : List (List UInt8)) (d : Dk) (fs : Fs) (T : List (List UInt8)) (g kp : Nat) (La : List (List UInt8)),
    feedM d fs T g kp (X ++ La) Ms = { feedM d fs T g kp La Ms with La := X ++ (feedM d fs T g kp La Ms).La }
  | [], d, fs, T, g, kp, La => rfl
  | m :: r, d, fs, T, g, kp, La => by
    unfold feedM
    split
    · rfl
    · rw [List.append_assoc]
      exact feedM_front X r _ _ _ _ _ _
theorem feedM_step {d : Dk} {fs : Fs} {T : List (List UInt8)} {g kp : Nat} {La : List (List UInt8)} {m : List UInt8} {x : Int} (e : (keepD d fs g m).1 = .inl x) {r : List (List UInt8)} :
    feedM d fs T g kp La (m :: r) = feedM (keepD d fs g m).2.1 (keepD d fs g m).2.2 (if x = 0 then T ++ [m] else T) (if x = 0 then g + (record m).length else g) (if x = 0 then kp + 1 else kp) (La ++ ansD m (.inl x)) r := by
  show (match (keepD d fs g m).1 with
    | .inr op => (⟨.inr op, (keepD d fs g m).2.1, (keepD d fs g m).2.2, T, g, kp, La⟩ : InR)
    | .inl x => feedM (keepD d fs g m).2.1 (keepD d fs g m).2.2 (if x = 0 then T ++ [m] else T) (if x = 0 then g + (record m).length else g) (if x = 0 then kp + 1 else kp) (La ++ ansD m (.inl x)) r) = _
  rw [e]
theorem feedM_more : ∀ (M1 M2 : List (List UInt8)) (d : Dk) (fs : Fs) (T : List (List UInt8)) (g kp : Nat) (La : List (List UInt8)), (feedM d fs T g kp La M1).r = .inl 0 →
    feedM d fs T g kp La (M1 ++ M2) = feedM (feedM d fs T g kp La M1).d (feedM d fs T g kp La M1).fs (feedM d fs T g kp La M1).T (feedM d fs T g kp La M1).g (feedM d fs T g kp La M1).kp (feedM d fs T g kp La M1).La M2
  | [], M2, d, fs, T, g, kp, La, _ => rfl
  | m :: r, M2, d, fs, T, g, kp, La, h => by
    rw [List.cons_append]
    cases e : (keepD d fs g m).1 with
    | inr op =>
      have : (feedM d fs T g kp La (m :: r)).r = .inr op := by
        unfold feedM
        rw [e]
      rw [this] at h
      cases h
    | inl x =>
      rw [feedM_step e] at h ⊢
      rw [feedM_step e]
      exact feedM_more r M2 _ _ _ _ _ _ h
/-- an inbox with so much room, of frames of up to most bytes, behind these bytes -/
def runD (room : Int) (most : Nat) (p : List UInt8) : InR := feedM ⟨room, 0, 0, 0, 0, 0⟩ (fsOf []) [] 0 0 [] (feedD most newS p).2
theorem runD_ok (room : Int) (hr : 0 ≤ room ∧ room ≤ 1073741824) (most : Nat) (hm : most ≤ 29000) (p : List UInt8) (hp : p.length ≤ 1000000) :
    (runD room most p).r = .inl 0 ∧ WPlain (runD room most p).d (runD room most p).fs nmI (runD room most p).T ∧ (runD room most p).g = (recs (runD room most p).T).length ∧ InB (runD room most p).d (runD room most p).fs (runD room most p).T (runD room most p).g (runD room most p).kp p.length ∧ (runD room most p).La.length ≤ p.length ∧ St.Up most p.length (feedD most newS p).1 := by
  have h0 : St.Up most 0 newS := ⟨Nat.le_refl _, Nat.le_refl _, Nat.le_refl _, Nat.zero_le _⟩
  have hl := feed_len most newS p p.length (Nat.le_refl _)
  have hs := feed_short h0 p p.length (Nat.le_refl _)
  have hu := feed_up h0 p p.length (Nat.le_refl _)
  rw [List.take_length] at hl hs hu
  obtain ⟨q1, q2⟩ := feedM_b (feedD most newS p).2 ⟨room, 0, 0, 0, 0, 0⟩ (fsOf []) [] 0 0 [] 0 ⟨newW_ok room hr, by show (0 : Int) ≤ _; decide, Nat.le_refl _, Nat.le_refl _, Nat.le_refl _⟩ (by omega) (fun x hx => Nat.le_trans (hs x hx) hm)
  obtain ⟨p1, p2, p3, _⟩ := feedM_plain (feedD most newS p).2 ⟨room, 0, 0, 0, 0, 0⟩ (fsOf []) [] 0 [] (newW_plain room nmI)
  refine ⟨p1, p2, p3, ?_, by have : (runD room most p).La.length ≤ 0 + (feedD most newS p).2.length := q2; omega, by simpa using hu⟩
  exact ⟨q1.ok, by have h := q1.ops; have e : (runD room most p).d.ops ≤ 3 * ((0 + (feedD most newS p).2.length : Nat) : Int) := h; omega, by have h : (runD room most p).g ≤ 29008 * (0 + (feedD most newS p).2.length) := q1.g; omega, by have h : (runD room most p).T.length ≤ 0 + (feedD most newS p).2.length := q1.T; omega, by have h : (runD room most p).kp ≤ 0 + (feedD most newS p).2.length := q1.kp; omega⟩
theorem runD_more (room : Int) (hr : 0 ≤ room ∧ room ≤ 1073741824) (most : Nat) (hm : most ≤ 29000) (p y : List UInt8) (hp : p.length ≤ 1000000) :
    runD room most (p ++ y) = { feedM (runD room most p).d (runD room most p).fs (runD room most p).T (runD room most p).g (runD room most p).kp [] (feedD most (feedD most newS p).1 y).2 with La := (runD room most p).La ++ (feedM (runD room most p).d (runD room most p).fs (runD room most p).T (runD room most p).g (runD room most p).kp [] (feedD most (feedD most newS p).1 y).2).La } := by
  have h1 := (runD_ok room hr most hm p hp).1
  have e : (feedD most newS (p ++ y)).2 = (feedD most newS p).2 ++ (feedD most (feedD most newS p).1 y).2 := by rw [feedD_append]
  unfold runD at h1 ⊢
  rw [e, feedM_more _ _ _ _ _ _ _ _ h1]
  have := feedM_front (runD room most p).La (feedD most (feedD most newS p).1 y).2 (runD room most p).d (runD room most p).fs (runD room most p).T (runD room most p).g (runD room most p).kp []
  rw [List.append_nil] at this
  exact this
/-- .. as it lies in memory -/
def Fed (Z : Nat → Prop) (w : World) (B D M L Q X : Nat) (room : Int) (most : Nat) (p : List UInt8) (O : Option Nat) (F : List Ent) (v va : Value) : Prop :=
  IB Z w B D M L Q X O (runD room most p).d F (runD room most p).T (runD room most p).g v most (feedD most newS p).1 va (runD room most p).La (runD room most p).La.length (runD room most p).kp ∧ fsOf F = (runD room most p).fs
section
variable {Z : Nat → Prop} {w : World} {B D M L Q X most : Nat} {room : Int} {p : List UInt8} {O : Option Nat} {F : List Ent} {v va : Value}
set_option maxHeartbeats 2000000 in
theorem mFed (h : Fed Z w B D M L Q X room most p O F v va) (hr : 0 ≤ room ∧ room ≤ 1073741824) (hm : most ≤ 29000) (A : Option Addr) (n c : Nat) (y : List UInt8) (hl : Bs w A n c y) (hp : p.length + n ≤ 1000000) (hoff : 0 < n → ∀ b, A = some b → ¬ FI L D M Q X O F v va b.block)
    (hG : ∀ W, Below B w W → Vers W ∧ Signs W ∧ Cds W) (hBw : B ≤ w.heap.size) :
    Calls Tryz.prog 16 #[pI X, .slice A n c] w fun e w' => e = .returned (.int .i64 0) ∧ ∃ O' F' v' va', Fed Z w' B D M L Q X room most (p ++ y) O' F' v' va' ∧ ICh (FI L D M Q X O F v va) (FI L D M Q X O' F' v' va') w w' := by
  obtain ⟨hi, hf⟩ := h
  obtain ⟨h1, h2, h3, h4, h5, h6⟩ := runD_ok room hr most hm p (by omega)
  have q1 := h4.ops
  have q2 := h4.g
  have q3 := h4.T
  have q4 := h4.kp
  refine (mFeed hi A n c p.length y hl hoff hm h6 (by omega) (by omega) hG (by rw [hf]; exact h4.ok) (by omega) (by omega) (by omega) (by omega) (by omega) (by omega) hBw).mono ?_
  rintro e w' ⟨F', v', va', O', he, hf', hi', hic⟩
  rw [hf] at he hf' hi'
  have hmore := runD_more room hr most hm p y (by omega)
  rw [h3] at he hf' hi' hmore
  obtain ⟨p1, p2, p3, p4⟩ := feedM_plain (feedD most (feedD most newS p).1 y).2 (runD room most p).d (runD room most p).fs (runD room most p).T (runD room most p).kp [] h2
  rw [p1] at he
  refine ⟨he, O', F', v', va', ⟨?_, ?_⟩, hic⟩
  · have es : (feedD most newS (p ++ y)).1 = (feedD most (feedD most newS p).1 y).1 := by rw [feedD_append]
    rw [hmore, es]
    simp only [List.length_append]
    exact hi'
  · rw [hmore]
    exact hf'
end
end Go.Proofs.YtodjilljcjkacaaGreatDoor
/- A region that draws its order: operations that only read are taken first, by the cheap step; the others come up one at a time. No condition. -/
namespace Go.Proofs.YtodjilljcjkacaaGreatDoor
open Go.RowKit

/-- worlds that meet S -/
structure Meets (S : World → Prop) where
  u : World
  h : S u
/-- an operation that yields a value, and enters no function -/
def isV : Op → Bool
  | .move _ | .assign _ | .pick .. | .load .. | .nilCheck _ | .binOp .. | .unOp .. | .convert .. | .fieldAddr .. | .indexAddr .. | .index .. | .field .. | .extract .. | .slice .. | .makeInterface .. => true
  | .call c => match c.callee with
    | .builtin .len => true
    | .builtin .max => true
    | .builtin .min => true
    | _ => false
  | _ => false
def IsVal (s : Sem Next) : Prop := ∀ P w n w', s.run P w = .ok n w' → ∃ u, n = .value u
theorem IsVal.pure (v : Value) : IsVal (pure (.value v)) := fun P w n w' h => by simp at h; exact ⟨_, h.1.symm⟩
theorem IsVal.bind {α : Type} {s : Sem α} {k : α → Sem Next} (hk : ∀ x, IsVal (k x)) : IsVal (s >>= k) := fun P w n w' h => by
  simp only [Sem.run_bind] at h
  cases hs : s.run P w with
  | ok u w1 => rw [hs] at h; exact hk u P w1 n w' h
  | halt x w1 => rw [hs] at h; simp [Result.andThen] at h
theorem IsVal.nil : IsVal (runtimePanic .nilDeref) := fun P w n w' h => by simp [runtimePanic, goPanic] at h
theorem isV_value {o : Oper} {f : Operand → Value} (h : isV o.op = true) : IsVal (execOp f o) := by
  unfold execOp
  cases ho : o.op <;> rw [ho] at h <;> simp only [isV] at h <;> try cases h
  all_goals first
    | exact IsVal.pure _
    | exact IsVal.bind (fun _ => IsVal.pure _)
    | skip
  · dsimp only
    split
    all_goals first
      | exact IsVal.pure _
      | exact IsVal.nil
      | skip
    split
    · exact IsVal.nil
    · refine IsVal.bind (fun _ => IsVal.bind (fun _ => ?_))
      split
      · exact IsVal.bind (fun _ => IsVal.pure _)
      · exact IsVal.pure _
    · exact IsVal.pure _
  · rename_i c
    dsimp only
    have hr : ∀ b, c.callee = .builtin b → resolve f c o.type = pure { target := .builtin b c.argTypes o.type (c.args.map fun | .const _ => true | _ => false), args := c.args.map f } := fun b hb => by
      unfold resolve
      rw [hb]
      rfl
    split at h
    · rename_i hb
      rw [hr _ hb]
      simp only [pure_bind, invoke, builtin]
      exact IsVal.bind (fun _ => IsVal.pure _)
    · rename_i hb
      rw [hr _ hb]
      simp only [pure_bind, invoke, builtin]
      exact IsVal.bind (fun _ => IsVal.pure _)
    · rename_i hb
      rw [hr _ hb]
      simp only [pure_bind, invoke, builtin]
      exact IsVal.bind (fun _ => IsVal.pure _)
    · cases h

/-- the operations of these numbers -/
def pick (l : List Oper) : List Nat → List Oper
  | [] => []
  | i :: r => match l[i]? with
    | some o => o :: pick l r
    | none => pick l r
def setAll (listed : Array Bool) : List Nat → Array Bool
  | [] => listed
  | i :: r => setAll (listed.setIfInBounds i true) r
/-- may these be taken one after another? -/
def takesB (ops : Array Oper) (listed : Array Bool) : List Nat → Bool
  | [] => true
  | i :: r => ((ops[i]?).map (fun o => isV o.op)).getD false && Region.free .any ops listed i && (Region.ready .any ops listed).contains i && takesB ops (listed.setIfInBounds i true) r
/-- a plan: groups that are taken, each with one that comes up behind it; at last a group -/
def planB (ops : Array Oper) (listed : Array Bool) : List (List Nat × Nat) → List Nat → Bool
  | [], last => takesB ops listed last && (Region.ready .any ops (setAll listed last) == [])
  | (qs, i) :: r, last => takesB ops listed qs && (Region.ready .any ops (setAll listed qs) == [i]) && planB ops ((setAll listed qs).setIfInBounds i true) r last
def planN : List (List Nat × Nat) → List Nat → Nat
  | [], last => last.length
  | (qs, _) :: r, last => (planN r last + 1) + qs.length
section
variable {P : Program} {l : List Oper} {Q : Exit → Act → World → Prop} {S : World → Prop}
abbrev InS (S : World → Prop) : World → Prop := fun w => ∃ m : Meets S, w = m.u
theorem takes (hs : Region.noSelect l.toArray = true) (hQ : ∀ c a d v w, Q (.panic c) (a.put (some d) v) w → Q (.panic c) a w) :
    ∀ (qs : List Nat) (fuel : Nat) (listed : Array Bool) (a : Act) (w : World), takesB l.toArray listed qs = true → S w →
      wpQuiet P l.toArray (InS S) (fun a' => wpAnyH P .any l.toArray Q S fuel (setAll listed qs) a' w) (pick l qs) a → wpAnyH P .any l.toArray Q S (fuel + qs.length) listed a w
  | [], fuel, listed, a, w, _, _, h => h
  | i :: r, fuel, listed, a, w, hB, hS, h => by
    simp only [takesB, Bool.and_eq_true, List.getElem?_toArray] at hB
    obtain ⟨⟨⟨h1, h2⟩, h3⟩, h4⟩ := hB
    cases ho : l[i]? with
    | none => rw [ho] at h1; cases h1
    | some o =>
      rw [ho] at h1
      have hv : isV o.op = true := h1
      have hp : pick l (i :: r) = o :: pick l r := by simp only [pick, ho]
      rw [hp] at h
      unfold wpQuiet at h
      have hq : ∀ v c a w, Q (.panic c) (a.put o.dst v) w → Q (.panic c) a w := fun v c a w => by
        cases o.dst with
        | none => exact id
        | some d => exact hQ c a d v w
      have hi : l.toArray[i]? = some o := by rw [List.getElem?_toArray]; exact ho
      have ih := takes hs hQ r fuel (listed.setIfInBounds i true)
      by_cases hw : Region.wanted o (yielded l.toArray a.tmps) = true
      · rw [if_pos hw] at h
        obtain ⟨v, hy, hk⟩ := h
        refine wpAnyH_take (v := v) hi hs h2 h3 (hq v) (.inl ⟨hw, fun W hW => ?_⟩) hS (ih _ w h4 hS hk)
        have := hy W ⟨⟨W, hW⟩, rfl⟩
        unfold Oper.quietAt at this
        cases hr : (execOp a.eval o).run P W with
        | ok n w' =>
          obtain ⟨u, rfl⟩ := isV_value hv P W n w' hr
          rw [hr] at this
          obtain ⟨rfl, rfl⟩ := this
          rfl
        | halt x w' => rw [hr] at this; cases this
      · rw [if_neg hw] at h
        exact wpAnyH_take (v := undef) hi hs h2 h3 (hq undef) (.inr ⟨by simpa using hw, rfl⟩) hS (ih _ w h4 hS h)
/-- what is to be shown of a plan -/
def wpPlan (P : Program) (l : List Oper) (Q : Exit → Act → World → Prop) (S : World → Prop) : List (List Nat × Nat) → List Nat → Act → World → Prop
  | [], last, a, w => wpQuiet P l.toArray (InS S) (fun a' => Q .normal a' w) (pick l last) a
  | (qs, i) :: r, last, a, w => wpQuiet P l.toArray (InS S) (fun a' => ∀ K : Act → World → Prop, Shut (∀ a w, S w → (S w → wpPlan P l Q S r last a w) → K a w) →
      (l[i]?).elim False fun o => if Region.wanted o (yielded l.toArray a'.tmps) = true then Oper.wp P o a' w K Q else K (a'.put o.dst undef) w) (pick l qs) a
theorem wpQuiet_mono {ops : Array Oper} {C : World → Prop} {A B : Act → Prop} (h : ∀ a, A a → B a) : ∀ (os : List Oper) (a : Act), wpQuiet P ops C A os a → wpQuiet P ops C B os a
  | [], a, k => h a k
  | o :: r, a, k => by
    unfold wpQuiet at k ⊢
    split
    · rename_i hw
      rw [if_pos hw] at k
      obtain ⟨v, h1, h2⟩ := k
      exact ⟨v, h1, wpQuiet_mono h r _ h2⟩
    · rename_i hw
      rw [if_neg hw] at k
      exact wpQuiet_mono h r _ k
theorem plan_any (hs : Region.noSelect l.toArray = true) (hQ : ∀ c a d v w, Q (.panic c) (a.put (some d) v) w → Q (.panic c) a w) :
    ∀ (r : List (List Nat × Nat)) (last : List Nat) (listed : Array Bool) (a : Act) (w : World), planB l.toArray listed r last = true → S w → wpPlan P l Q S r last a w → wpAnyH P .any l.toArray Q S (planN r last) listed a w
  | [], last, listed, a, w, hB, hS, h => by
    simp only [planB, Bool.and_eq_true, beq_iff_eq] at hB
    have := takes (P := P) hs hQ last 0 listed a w hB.1 hS (wpQuiet_mono (fun a' ha => wpAnyH_done hB.2 ha 0) _ _ h)
    simpa [planN] using this
  | (qs, i) :: r, last, listed, a, w, hB, hS, h => by
    simp only [planB, Bool.and_eq_true, beq_iff_eq] at hB
    refine takes (P := P) hs hQ qs (planN r last + 1) listed a w hB.1.1 hS (wpQuiet_mono (fun a' ha => ?_) _ _ h)
    refine wpAnyH_ready hB.1.2 (by simp) (fun j hj => ?_)
    rw [List.mem_singleton.1 hj]
    have h1 := fun K hK => ha K hK
    cases ho : l[i]? with
    | none =>
      rw [ho] at h1
      exact (h1 (fun _ _ => True) (fun _ _ _ _ => trivial)).elim
    | some o =>
      rw [ho] at h1
      exact wpOp_step (by rw [List.getElem?_toArray]; exact ho) (fun K hK => h1 K (fun a w hS hW => hK a w ⟨hS, plan_any hs hQ r last _ a w hB.2 hS (hW hS)⟩))
/-- A region by a plan. -/
theorem region_plan {id : Nat} {a : Act} {w : World} (S : World → Prop) (r : List (List Nat × Nat)) (last : List Nat) (hm : P.follows .mixedOrders = true)
    (hB : (Region.noSelect l.toArray && planB l.toArray (Array.replicate l.length false) r last && (planN r last == l.length)) = true) (hQ : ∀ c a d v w, Q (.panic c) (a.put (some d) v) w → Q (.panic c) a w) (hS : S w.drew)
    (h : Nonempty (Meets S) → wpPlan P l Q S r last a w.drew) : (Code.region id l.toArray true).wp P Q a w := by
  simp only [Bool.and_eq_true, beq_iff_eq] at hB
  refine wp_region_held_drew (S := S) hm hS (fun _ => ?_)
  have := plan_any (P := P) hB.1.1 hQ r last (Array.replicate l.length false) a w.drew hB.1.2 hS (h ⟨⟨_, hS⟩⟩)
  rw [hB.2] at this
  simpa using this
end
end Go.Proofs.YtodjilljcjkacaaGreatDoor
/- InboxPieces, walked. -/
namespace Go.Proofs.YtodjilljcjkacaaGreatDoor
open Go.RowKit Go.MapKept

/-- the slice reads as numbers -/
def Is (w : World) (A : Option Addr) (n c : Nat) (Z : List Int) : Prop :=
  Z.length = n ∧ n ≤ c ∧ c ≤ maxLen ∧ (0 < n → ∃ b o, A = some ⟨b, o, none⟩ ∧ b < w.heap.size ∧ ∀ (i : Nat) (x : Int), Z[i]? = some x → w.cell? ⟨b, o + i, none⟩ = some (.int .i64 x))
theorem Is.below {w w' : World} {A : Option Addr} {n c : Nat} {Z : List Int} (h : Is w A n c Z) (hb : Below w.heap.size w w') : Is w' A n c Z :=
  ⟨h.1, h.2.1, h.2.2.1, fun hn => by
    obtain ⟨b, o, e, hlt, hc⟩ := h.2.2.2 hn
    exact ⟨b, o, e, Nat.lt_of_lt_of_le hlt hb.size, fun i x hx => (hb.cell (p := ⟨b, o + i, none⟩) hlt).trans (hc i x hx)⟩⟩
theorem Is.read {w : World} {A : Option Addr} {n c : Nat} {Z : List Int} (h : Is w A n c Z) {i : Nat} (hi : i < n) : ∃ b o x, A = some ⟨b, o, none⟩ ∧ b < w.heap.size ∧ w.cell? ⟨b, o + i, none⟩ = some (.int .i64 x) := by
  obtain ⟨b, o, e, hlt, hc⟩ := h.2.2.2 (by omega)
  exact ⟨b, o, _, e, hlt, hc i _ (List.getElem?_eq_getElem (by rw [h.1]; exact hi))⟩
theorem Is.nmax {w : World} {A : Option Addr} {n c : Nat} {Z : List Int} (h : Is w A n c Z) : n ≤ 9223372036854775807 := by
  have := h.2.1
  have := h.2.2.1
  simp only [maxLen] at this
  omega
theorem cut_place (x : Int) (r : Nat) (hr : r ≤ 100000) : ∃ u q : Nat, IntKind.u64.wrap x = (u : Int) ∧ q ≤ r ∧ u % (r + 1) = q := by
  have h2 : 0 ≤ IntKind.u64.wrap x := by simp [IntKind.wrap, IntKind.signed]; omega
  refine ⟨(IntKind.u64.wrap x).toNat, (IntKind.u64.wrap x).toNat % (r + 1), by omega, ?_, rfl⟩
  have := Nat.mod_lt (IntKind.u64.wrap x).toNat (show 0 < r + 1 by omega)
  omega
/-- the first one was fed whole, the second one so much -/
def PSt (w : World) (B1 D1 M1 L1 Q1 X1 B2 D2 M2 L2 Q2 X2 : Nat) (room : Int) (most : Nat) (p1 p2 : List UInt8) (W : World) : Prop :=
  ∃ (O1 O2 : Option Nat) (F1 F2 : List Ent) (v1 va1 v2 va2 : Value), Fed (fun j => FI L2 D2 M2 Q2 X2 O2 F2 v2 va2 j) W B1 D1 M1 L1 Q1 X1 room most p1 O1 F1 v1 va1 ∧ Fed (fun j => FI L1 D1 M1 Q1 X1 O1 F1 v1 va1 j) W B2 D2 M2 L2 Q2 X2 room most p2 O2 F2 v2 va2 ∧
    Below w.heap.size w W ∧ B1 ≤ W.heap.size ∧ B2 ≤ W.heap.size
section
variable {w W W' : World} {B1 D1 M1 L1 Q1 X1 B2 D2 M2 L2 Q2 X2 most : Nat} {room : Int} {p1 p2 : List UInt8}
theorem PSt.low (h : PSt w B1 D1 M1 L1 Q1 X1 B2 D2 M2 L2 Q2 X2 room most p1 p2 W) : Below w.heap.size w W := by
  obtain ⟨_, _, _, _, _, _, _, _, _, _, h, _⟩ := h
  exact h
theorem p_feed1 (h : PSt w B1 D1 M1 L1 Q1 X1 B2 D2 M2 L2 Q2 X2 room most p1 p2 W) (hr : 0 ≤ room ∧ room ≤ 1073741824) (hm : most ≤ 29000) (hw1 : w.heap.size ≤ B1) (hG : ∀ W, Below w.heap.size w W → Vers W ∧ Signs W ∧ Cds W) (A : Option Addr) (n c : Nat) (y : List UInt8) (hl : Bs w A n c y) (hp : p1.length + n ≤ 1000000) :
    Calls Tryz.prog 16 #[pI X1, .slice A n c] W fun e W' => e = .returned (.int .i64 0) ∧ PSt w B1 D1 M1 L1 Q1 X1 B2 D2 M2 L2 Q2 X2 room most (p1 ++ y) p2 W' := by
  obtain ⟨O1, O2, F1, F2, v1, va1, v2, va2, h1, h2, h3, h4, h5⟩ := h
  refine (mFed h1 hr hm A n c y (hl.below h3) hp (fun h0 b hb hk => by
    obtain ⟨b', o', e, hlt, _⟩ := hl.at_ h0
    rw [e] at hb; injection hb with hb; subst hb
    have := (h1.1.foot_lt hk).1
    simp only at this; omega) (fun W2 hb2 => hG W2 (h3.trans (hb2.mono hw1))) h4).mono ?_
  rintro e W' ⟨rfl, O', F', v', va', hf, hic⟩
  exact ⟨rfl, O', O2, F', F2, v', va', v2, va2, hf, ⟨h2.1.beside hic.ch (fun _ _ hk => hk) (fun k hk => ⟨(hf.1.foot_lt hk).2, hic.foot k hk⟩), h2.2⟩, h3.trans ((hic.ch.below (fun k hk => (h1.1.foot_lt hk).1) h4).mono hw1), Nat.le_trans h4 hic.ch.size, Nat.le_trans h5 hic.ch.size⟩
theorem p_feed2 (h : PSt w B1 D1 M1 L1 Q1 X1 B2 D2 M2 L2 Q2 X2 room most p1 p2 W) (hr : 0 ≤ room ∧ room ≤ 1073741824) (hm : most ≤ 29000) (hw2 : w.heap.size ≤ B2) (hG : ∀ W, Below w.heap.size w W → Vers W ∧ Signs W ∧ Cds W) (A : Option Addr) (n c : Nat) (y : List UInt8) (hl : Bs w A n c y) (hp : p2.length + n ≤ 1000000) :
    Calls Tryz.prog 16 #[pI X2, .slice A n c] W fun e W' => e = .returned (.int .i64 0) ∧ PSt w B1 D1 M1 L1 Q1 X1 B2 D2 M2 L2 Q2 X2 room most p1 (p2 ++ y) W' := by
  obtain ⟨O1, O2, F1, F2, v1, va1, v2, va2, h1, h2, h3, h4, h5⟩ := h
  refine (mFed h2 hr hm A n c y (hl.below h3) hp (fun h0 b hb hk => by
    obtain ⟨b', o', e, hlt, _⟩ := hl.at_ h0
    rw [e] at hb; injection hb with hb; subst hb
    have := (h2.1.foot_lt hk).1
    simp only at this; omega) (fun W2 hb2 => hG W2 (h3.trans (hb2.mono hw2))) h5).mono ?_
  rintro e W' ⟨rfl, O', F', v', va', hf, hic⟩
  exact ⟨rfl, O1, O', F1, F', v1, va1, v', va', ⟨h1.1.beside hic.ch (fun _ _ hk => hk) (fun k hk => ⟨(hf.1.foot_lt hk).2, hic.foot k hk⟩), h1.2⟩, hf, h3.trans ((hic.ch.below (fun k hk => (h2.1.foot_lt hk).1) h5).mono hw2), Nat.le_trans h4 hic.ch.size, Nat.le_trans h5 hic.ch.size⟩
end
set_option maxRecDepth 100000
set_option maxHeartbeats 8000000
theorem inboxPieces_walk (a b : Int) (A : Option Addr) (n c : Nat) (l : List UInt8) (A2 : Option Addr) (n2 c2 : Nat) (Z : List Int) (w : World) (hv : Vers w ∧ Signs w ∧ Cds w) (hB : Bs w A n c l) (_hc : c ≤ 140737488351232) (hI : Is w A2 n2 c2 Z) :
    Calls Tryz.prog 5 #[.agg #[.int .i64 a, .int .i64 b], .slice A n c, .slice A2 n2 c2] w (True_ w) := by
  have HG := Lib.hid (fun W (hb : Below w.heap.size w W) => (⟨hv.1.below hb, hv.2.1.below hb, hv.2.2.below hb⟩ : Vers W ∧ Signs W ∧ Cds W))
  have hmax := hB.nmax
  have hmax2 := hI.nmax
  have HB := Lib.hid hB
  have HI := Lib.hid hI
  clear hv hB hI
  go_enter Tryz.func5, Tryz.ntmps5
  have hb0 : Below w.heap.size w (w.alloc (.cells #[.int .i64 a, .int .i64 b] 22)) := (Below.refl _ w).alloc (Nat.le_refl _) _
  have HB0 := Lib.hid hb0
  have HBX0 : Hid ((w.alloc (.cells #[.int .i64 a, .int .i64 b] 22)).heap[w.heap.size]? = some (.cells #[.int .i64 a, .int .i64 b] 22)) := Lib.hid (heap_alloc_new w _)
  clear hb0
  go_wp2_with (fail)
  generalize w.alloc (.cells #[.int .i64 a, .int .i64 b] 22) = w0 at *
  refine (alive17 w0 (fun W hb => HG.out W (HB0.out.trans (hb.mono HB0.out.size)))).mono ?_
  rintro e w1 ⟨rfl, hb1⟩
  have HB1 := Lib.hid (HB0.out.trans (hb1.mono HB0.out.size))
  have HBX1 := Lib.hid ((Ch.of_below (S := fun _ => False) hb1).row HBX0.out (fun h => h))
  clear hb1
  by_cases hlong : (2000 : Int) < (n : Int)
  · go_wp2_with (fail)
    refine (alive17 w1 (fun W hb => HG.out W (HB1.out.trans (hb.mono HB1.out.size)))).mono ?_
    rintro e w3 ⟨rfl, hb⟩
    have HB3 : Hid (Below w.heap.size w w3) := Lib.hid (HB1.out.trans (hb.mono HB1.out.size))
    clear hb
    go_wp2_with (fail)
    go_ret
    exact ⟨rfl, HB3.out⟩
  by_cases hlong2 : (60 : Int) < (n2 : Int)
  · go_wp2_with (fail)
    refine (alive17 w1 (fun W hb => HG.out W (HB1.out.trans (hb.mono HB1.out.size)))).mono ?_
    rintro e w3 ⟨rfl, hb⟩
    have HB3 : Hid (Below w.heap.size w w3) := Lib.hid (HB1.out.trans (hb.mono HB1.out.size))
    clear hb
    go_wp2_with (fail)
    go_ret
    exact ⟨rfl, HB3.out⟩
  have HN : Hid (n ≤ 2000 ∧ n2 ≤ 60) := Lib.hid ⟨by omega, by omega⟩
  go_wp2_with (fail)
  obtain ⟨S, hSd⟩ : ∃ S : World → Prop, ∀ W, S W ↔ (W.cell? ⟨w.heap.size, 0, none⟩ = some (.int .i64 a) ∧ W.cell? ⟨w.heap.size, 1, none⟩ = some (.int .i64 b)) := ⟨_, fun _ => Iff.rfl⟩
  have s0 : ∀ q : Meets S, q.u.cell? ⟨w.heap.size, 0, none⟩ = some (.int .i64 a) := fun q => ((hSd _).1 q.h).1
  have s1 : ∀ q : Meets S, q.u.cell? ⟨w.heap.size, 1, none⟩ = some (.int .i64 b) := fun q => ((hSd _).1 q.h).2
  have HS := Lib.hid hSd
  clear hSd
  have HC1 : Hid (∀ W, Below w1.heap.size w1 W → W.cell? ⟨w.heap.size, 0, none⟩ = some (.int .i64 a) ∧ W.cell? ⟨w.heap.size, 1, none⟩ = some (.int .i64 b)) := Lib.hid (fun W hb => by
    have h := (Ch.of_below (S := fun _ => False) hb).row HBX1.out (fun h => h)
    exact ⟨cell_of_row W w.heap.size 0 _ _ _ h, cell_of_row W w.heap.size 1 _ _ _ h⟩)
  refine region_plan S [([0, 1, 3, 4], 2), ([], 5), ([], 6)] [7, 8, 9, 10, 11, 12, 13] (by kernel_rfl) (by kernel_rfl) (fun _ _ _ _ _ h => h) ((HS.out _).2 (HC1.out _ (Below.refl _ w1).drew)) (fun hne => ?_)
  simp only [wpPlan, pick, List.getElem?_cons_zero, List.getElem?_cons_succ, Option.elim]
  repeat (go_big_quiet_step (fail))
  refine wpQuiet_nil ?_
  intro K hK
  have HD2 : Hid (Below w1.heap.size w1 w1.drew) := Lib.hid (Below.refl _ w1).drew
  generalize w1.drew = w2z at *
  go_simp
  refine (room17 a _).mono ?_
  rintro e w2a ⟨rfl, rfl⟩
  dsimp only
  refine hK.out _ _ ((HS.out _).2 (HC1.out _ HD2.out)) (fun _ => ?_)
  clear hK K
  refine wpQuiet_nil ?_
  intro K hK
  go_simp
  refine (most17 b _).mono ?_
  rintro e w2 ⟨rfl, rfl⟩
  dsimp only
  refine hK.out _ _ ((HS.out _).2 (HC1.out _ HD2.out)) (fun _ => ?_)
  clear hK K
  refine wpQuiet_nil ?_
  intro K hK
  go_simp
  obtain ⟨rr, hrr, hrl⟩ : ∃ rr, rr = u64D a 3000 ∧ rr < 3000 := ⟨_, rfl, u64D_lt a 3000 (by decide)⟩
  obtain ⟨mm, hmm, hml⟩ : ∃ mm, mm = u64D b 600 ∧ mm < 600 := ⟨_, rfl, u64D_lt b 600 (by decide)⟩
  rw [← hrr, ← hmm]
  have HRR := Lib.hid hrr
  have HMM := Lib.hid hmm
  have HRL : Hid ((0 : Int) ≤ (rr : Int) ∧ (rr : Int) ≤ 1073741824) := Lib.hid (by omega)
  have HML : Hid (1 ≤ mm + 1 ∧ mm + 1 ≤ 600) := Lib.hid (by omega)
  clear hrr hmm hrl hml
  refine (begin17 (rr : Int) HRL.out (mm + 1) HML.out.1 (by have := HML.out; omega) w2).mono ?_
  rintro e w3 ⟨D1, M1, L1, Q1, X1, v1, rfl, hi1, hb3⟩
  have HI1 := Lib.hid hi1
  have HD3 := Lib.hid (HD2.out.trans (hb3.mono HD2.out.size))
  have HE3 := Lib.hid hb3
  clear hi1 hb3
  dsimp only
  refine hK.out _ _ ((HS.out _).2 (HC1.out _ HD3.out)) (fun _ => ?_)
  clear hK K
  repeat (go_big_quiet_step (fail))
  refine wpQuiet_nil ?_
  go_wp2_with (fail)
  refine region_plan S [([0, 1, 3, 4], 2), ([], 5), ([], 6)] [7, 8, 9, 10, 11, 12, 13] (by kernel_rfl) (by kernel_rfl) (fun _ _ _ _ _ h => h) ((HS.out _).2 (HC1.out _ HD3.out.drew)) (fun hne => ?_)
  simp only [wpPlan, pick, List.getElem?_cons_zero, List.getElem?_cons_succ, Option.elim]
  repeat (go_big_quiet_step (fail))
  refine wpQuiet_nil ?_
  intro K hK
  have HI4 := Lib.hid (HI1.out.below (Below.refl _ w3).drew)
  have HD4 : Hid (Below w1.heap.size w1 w3.drew) := Lib.hid HD3.out.drew
  have HE4 : Hid (Below w2.heap.size w2 w3.drew) := Lib.hid HE3.out.drew
  clear HI1 HD3 HE3
  generalize w3.drew = w4z at *
  go_simp
  refine (room17 a _).mono ?_
  rintro e w4a ⟨rfl, rfl⟩
  dsimp only
  refine hK.out _ _ ((HS.out _).2 (HC1.out _ HD4.out)) (fun _ => ?_)
  clear hK K
  refine wpQuiet_nil ?_
  intro K hK
  go_simp
  refine (most17 b _).mono ?_
  rintro e w4 ⟨rfl, rfl⟩
  dsimp only
  refine hK.out _ _ ((HS.out _).2 (HC1.out _ HD4.out)) (fun _ => ?_)
  clear hK K
  refine wpQuiet_nil ?_
  intro K hK
  go_simp
  rw [← HRR.out, ← HMM.out]
  refine (begin17 (rr : Int) HRL.out (mm + 1) HML.out.1 (by have := HML.out; omega) w4).mono ?_
  rintro e w5 ⟨D2, M2, L2, Q2, X2, v2, rfl, hi2, hb5⟩
  have HI2 := Lib.hid hi2
  have HD5 := Lib.hid (HD4.out.trans (hb5.mono HD4.out.size))
  have HE5 := Lib.hid hb5
  clear hi2 hb5
  dsimp only
  refine hK.out _ _ ((HS.out _).2 (HC1.out _ HD5.out)) (fun _ => ?_)
  clear hK K
  repeat (go_big_quiet_step (fail))
  refine wpQuiet_nil ?_
  have h0 : PSt w w2.heap.size D1 M1 L1 Q1 X1 w4.heap.size D2 M2 L2 Q2 X2 (rr : Int) (mm + 1) [] [] w5 := by
    refine ⟨none, none, [], [], v1, .slice none 0 0, v2, .slice none 0 0, ⟨?_, rfl⟩, ⟨?_, rfl⟩, HB1.out.trans (HD5.out.mono HB1.out.size), Nat.le_trans HE4.out.size HE5.out.size, HE5.out.size⟩
    · exact HI4.out.beside (Ch.of_below (S := fun _ => False) HE5.out) (fun _ _ h => h.elim) (fun k hk => by
        have := HI2.out.foot_lt hk
        exact ⟨this.2, .inr this.1⟩)
    · exact HI2.out.less (fun k hk => (HI4.out.foot_lt hk).2)
  have H0 := Lib.hid h0
  have HW1 : Hid (w.heap.size ≤ w2.heap.size) := Lib.hid (Nat.le_trans HB1.out.size HD2.out.size)
  have HW2 : Hid (w.heap.size ≤ w4.heap.size) := Lib.hid (Nat.le_trans HB1.out.size HD4.out.size)
  clear h0 HI4 HI2 HD5 HE5 HE4 HD4 HD2 HC1 HS s0 s1 HBX1 HBX0 HB0
  generalize w2.heap.size = B1 at *
  generalize w4.heap.size = B2 at *
  go_wp2_with (fail)
  refine (p_feed1 H0.out HRL.out (by have := HML.out; omega) HW1.out HG.out A n c l HB.out (by have := HN.out; simp; omega)).mono ?_
  rintro e w6 ⟨rfl, hp6⟩
  have HP6 := Lib.hid hp6
  clear hp6 H0
  go_wp2_with (fail)
  go_loopw [13, 15, 16, 64, 65, 66, 67, 68, 69, 70, 71, 72, 73, 74, 75, 76, 77, 78, 79, 80, 81, 82, 83, 84] (fun rest _ _ i _ _ _ _ _ _ _ _ _ _ _ _ _ _ _ _ _ _ _ _ wr => ∃ (j p : Nat) (Ar : Option Addr) (cr : Nat), i = .int .i64 j ∧ j ≤ n2 ∧ p ≤ n ∧ rest = .slice Ar (n - p) cr ∧ Bs w Ar (n - p) cr (l.drop p) ∧ PSt w B1 D1 M1 L1 Q1 X1 B2 D2 M2 L2 Q2 X2 (rr : Int) (mm + 1) l (l.take p) wr) (fun _ _ _ i _ _ _ _ _ _ _ _ _ _ _ _ _ _ _ _ _ _ _ _ _ => n2 - (intOf i).toNat)
  case atStart => exact ⟨0, 0, A, c, rfl, Nat.zero_le _, Nat.zero_le _, rfl, by rw [List.drop_zero]; exact HB.out, by rw [List.take_zero]; exact HP6.out⟩
  case round =>
    obtain ⟨wo, rfl⟩ : ∃ wo : World, wo = wr := ⟨_, rfl⟩
    obtain ⟨j, p, Ar, cr, rfl, hj, hp, rfl, hbr, hst⟩ := hrel
    have HBR := Lib.hid hbr
    have HST := Lib.hid hst
    have HBO := Lib.hid hst.low
    have hcr := hbr.max
    have hlr := hbr.le
    have HLN := Lib.hid HB.out.len
    obtain ⟨r, hr⟩ : ∃ r, r = n - p := ⟨_, rfl⟩
    rw [← hr] at HBR hlr ⊢
    have hrk : r ≤ 2000 := by have := HN.out; omega
    clear hbr hst HP6
    by_cases hlt : j < n2
    · obtain ⟨b2, o2, x, rfl, _, hc2⟩ := (HI.out.below HBO.out).read hlt
      obtain ⟨u, q, hu, hq, huq⟩ := cut_place x r (by omega)
      have e1 : (j : Int) < (n2 : Int) := by omega
      have ew1 : IntKind.u64.wrap ((r : Int) + 1) = (r : Int) + 1 := by simp [IntKind.wrap, IntKind.signed, IntKind.bits]; omega
      have ew3 : (u : Int) % ((r : Int) + 1) = (q : Int) := by
        have := congrArg (fun z : Nat => (z : Int)) huq
        simpa using this
      have ew2 : (u : Int).tmod ((r : Int) + 1) = (q : Int) := by rw [Int.tmod_eq_emod_of_nonneg (by omega)]; exact ew3
      have ew4 : IntKind.u64.wrap (q : Int) = (q : Int) := by simp [IntKind.wrap, IntKind.signed, IntKind.bits]; omega
      have ew5 : IntKind.i64.wrap (q : Int) = (q : Int) := by rw [IntKind.wrap_i64]; omega
      have ene : ¬ (r : Int) + 1 = 0 := by omega
      have HQ := Lib.hid hq
      have HR := Lib.hid hr
      have HLT := Lib.hid hlt
      have HP := Lib.hid hp
      have hqc : (q : Int) ≤ (cr : Int) := by omega
      have hqr : (q : Int) ≤ (r : Int) := by omega
      clear hq hr hlt huq hp
      go_wp2_with (fail)
      refine (p_feed2 HST.out HRL.out (by have := HML.out; omega) HW2.out HG.out Ar q cr ((l.drop p).take q) (HBR.out.take HQ.out) (by rw [List.length_take]; have := HN.out; have := HLN.out; have := HQ.out; omega)).mono ?_
      rintro e w7 ⟨rfl, hp7⟩
      have HP7 : Hid (PSt w B1 D1 M1 L1 Q1 X1 B2 D2 M2 L2 Q2 X2 (rr : Int) (mm + 1) l (l.take (p + q)) w7) := Lib.hid (by rw [List.take_add]; exact hp7)
      clear hp7 HST hc2
      go_wp2_with (fail)
      have hpq : n - (p + q) = r - q := by have := HR.out; omega
      refine ⟨⟨j + 1, p + q, (if cr = q then Ar else Option.map (fun x => x.add q) Ar), cr - q, by go_num, HLT.out, by have := HP.out; have := HQ.out; have := HR.out; omega, by rw [hpq], ?_, HP7.out⟩, by have := HLT.out; simp [intOf]; omega⟩
      rw [hpq]
      have := HBR.out.drop (i := q) HQ.out
      rw [List.drop_drop] at this
      exact this
    · obtain rfl : j = n2 := by omega
      have HR := Lib.hid hr
      have HP := Lib.hid hp
      clear hr hp
      go_wp2_with (fail)
      refine (p_feed2 HST.out HRL.out (by have := HML.out; omega) HW2.out HG.out Ar r cr (l.drop p) HBR.out (by rw [List.length_take]; have := HN.out; have := HLN.out; have := HR.out; omega)).mono ?_
      rintro e w7 ⟨rfl, hp7⟩
      rw [List.take_append_drop] at hp7
      have HP7 := Lib.hid hp7
      clear hp7 HST
      go_wp2_with (fail)
      obtain ⟨O1, O2, F1, F2, v1', va1, v2', va2, ⟨h1, _⟩, ⟨h2, _⟩, h3, h4, h5⟩ := HP7.out
      have hfr : (feedD (mm + 1) newS l).1.fr.length ≤ 1000000 := by
        have := (runD_ok (rr : Int) HRL.out (mm + 1) (by have := HML.out; omega) l (by have := HN.out; have := HLN.out; omega)).2.2.2.2.2.fr
        have := HML.out
        omega
      have HFR := Lib.hid hfr
      generalize runD (rr : Int) (mm + 1) l = RR at *
      generalize (feedD (mm + 1) newS l).1 = ss at *
      obtain ⟨La, hLa⟩ : ∃ La, La = RR.La := ⟨_, rfl⟩
      rw [← hLa] at h1 h2
      clear hLa HP7 hfr
      refine (inTake h1).mono ?_
      rintro e w8 ⟨rfl, hi1, hr1, hc8⟩
      have h28 := h2.beside hc8 (Z' := fun _ => False) (fun j _ hj => .inl hj) (fun j h => h.elim)
      have HI18 := Lib.hid hi1
      have HI28 := Lib.hid h28
      have HR18 := Lib.hid hr1
      have HB8 : Hid (Below w.heap.size w w8) := Lib.hid (h3.trans ((hc8.below (fun j hj => by rw [show j = X1 from hj]; exact h1.xb) h4).mono HW1.out))
      have HS8 : Hid (B2 ≤ w8.heap.size) := Lib.hid (Nat.le_trans h5 hc8.size)
      clear hi1 h28 hr1 hc8 h1 h2 h3 h4 h5
      go_wp2_with (fail)
      refine (inTake HI28.out).mono ?_
      rintro e w9 ⟨rfl, hi2, hr2, hc9⟩
      have h19 := HI18.out.beside hc9 (Z' := fun _ => False) (fun j _ hj => .inl hj) (fun j h => h.elim)
      have h29 := HR18.out.ch (T' := fun _ => False) hc9 (fun j _ hj => .inl (.inl hj)) (fun _ _ h => h.elim)
      obtain ⟨A8, c8, e8, hrd8⟩ := h29.rd
      obtain ⟨A9, c9, e9, hrd9⟩ := hr2.rd
      obtain ⟨M, hM⟩ : ∃ M, M = La.length := ⟨_, rfl⟩
      rw [← hM] at h19 hi2 e8 e9 hrd8 hrd9
      have HI19 := Lib.hid h19
      have HI29 := Lib.hid hi2
      have HR8 := Lib.hid hrd8
      have HR9 := Lib.hid hrd9
      have HB9 : Hid (Below w.heap.size w w9) := Lib.hid (HB8.out.trans ((hc9.below (fun j hj => by rw [show j = X2 from hj]; exact HI28.out.xb) HS8.out).mono HW2.out))
      clear h19 h29 hi2 hr2 hc9 hrd8 hrd9 hM HI18 HI28 HR18 HB8 HS8
      subst e8 e9
      go_wp2_with (fail)
      refine (same17 A8 A9 M c8 c9 La w9 HR8.out HR9.out).mono ?_
      rintro e w10 ⟨rfl, hb10⟩
      have HI1A := Lib.hid (HI19.out.below hb10)
      have HI2A := Lib.hid (HI29.out.below hb10)
      have HBA := Lib.hid (HB9.out.trans (hb10.mono HB9.out.size))
      clear hb10 HI19 HI29 HR8 HR9 HB9
      go_wp2_with (fail)
      refine (walLen HI1A.out.lg).mono ?_
      rintro e w11 ⟨rfl, rfl⟩
      go_wp2_with (fail)
      refine (walLen HI2A.out.lg).mono ?_
      rintro e w12 ⟨rfl, rfl⟩
      go_wp2_with (fail)
      refine (walGood HI1A.out.lg).mono ?_
      rintro e w13 ⟨rfl, rfl⟩
      go_wp2_with (fail)
      refine (walGood HI2A.out.lg).mono ?_
      rintro e w14 ⟨rfl, rfl⟩
      go_wp2_with (fail)
      refine (inHeld HI1A.out HFR.out).mono ?_
      rintro e w15 ⟨rfl, rfl⟩
      go_wp2_with (fail)
      refine (inHeld HI2A.out HFR.out).mono ?_
      rintro e w16 ⟨rfl, rfl⟩
      go_wp2_with (fail)
      go_ret
      exact ⟨rfl, HBA.out⟩
end Go.Proofs.YtodjilljcjkacaaGreatDoor
/- An argument that is a slice of bytes, opened into 'Bs'. -/
namespace Go.Proofs.YtodjilljcjkacaaGreatDoor
open Go.RowKit Go.ChangeShapes Go.WideShapes

theorem own : ownKnob Tryz.prog.godebug = none := by kernel_rfl
theorem laidOut : laidOutB Tryz.prog = true := by kernel_rfl
theorem cellsByte : Tryz.prog.cellsOf 5 = 1 := by kernel_rfl
theorem bytesByte : Tryz.prog.bytesOf 5 = 1 := by kernel_rfl

theorem byte_back {x : Int} (h : (Lit.int .u8 x).wf = true) : ((UInt8.ofNat x.toNat).toNat : Int) = x := by
  have hx : 0 ≤ x ∧ x ≤ 255 := by simpa [Lit.wf, IntKind.min, IntKind.max, IntKind.signed, IntKind.bits] using h
  have : x.toNat < 256 := by omega
  simp [Nat.mod_eq_of_lt this]
  omega

theorem open_bytes {H : Type} {enc : TypeId × Value → H} {W : World} {A : Option Addr} {len cap : Nat} {d : DataW H} {p : List MemPlace} {ts : List TypeId} {ds : List (DataW H)}
    (h : DataW.Trod enc Tryz.prog W 0 (fun _ => true) true 40 (.slice A len cap) d p) (j : Nat) (ht : ts[j]? = some 40) (hd : ds[j]? = some d)
    (hs : (DataW.weightsEach Tryz.prog ts ds).all (· ≤ reachBytes) = true) : ∃ l, Bs W A len cap l ∧ cap ≤ 140737488351232 := by
  obtain ⟨fuel, hf⟩ := h
  rcases open_ints Tryz.underlying40 Tryz.underlying5 cellsByte hf with ⟨hcs, _⟩ | ⟨x, l, c, zs, hcs, _, hl, hm, hz, hx, hcell, hwz⟩
  · simp [Value.cells] at hcs
    obtain ⟨rfl, rfl, rfl⟩ := hcs
    exact ⟨[], Bs.none_ W, by omega⟩
  · simp [Value.cells] at hcs
    obtain ⟨rfl, rfl, rfl⟩ := hcs
    simp only [if_true] at hz
    simp only [Prod.mk.injEq] at hx
    obtain ⟨rfl, _⟩ := hx
    have hr := sized_slice hs ht hd Tryz.underlying40
    rw [bytesByte] at hr
    simp only [lits, List.length_map, List.length_take, List.length_drop, reachBytes] at hr
    refine ⟨(zs.take len).map fun z => UInt8.ofNat z.toNat, ⟨by rw [List.length_map, List.length_take]; omega, hl, hm, fun hn => ?_⟩, by omega⟩
    have h0 := hcell 0 (by omega)
    obtain ⟨b, off, spot⟩ := x
    have hspot : spot = none := by simpa [Addr.add] using World.cell?_spot h0
    subst hspot
    refine ⟨b, off, rfl, fun i y hy => ?_⟩
    rw [List.getElem?_map, List.getElem?_take] at hy
    split at hy
    · rename_i hi
      have hiz : i < zs.length := by omega
      rw [List.getElem?_eq_getElem hiz] at hy
      simp only [Option.map_some, Option.some.injEq] at hy
      subst hy
      have hc := hcell i hiz
      rw [Addr.add_lit] at hc
      rw [hc]
      simp only [List.getD, List.getElem?_eq_getElem hiz, Option.getD_some]
      show _ = some (Value.int IntKind.u8 _)
      rw [byte_back (hwz _ (List.getElem_mem hiz))]
    · cases hy
end Go.Proofs.YtodjilljcjkacaaGreatDoor
/- Arguments that are texts, bytes and slices of texts; what the second form's bound says of them. -/
namespace Go.Proofs.YtodjilljcjkacaaGreatDoor
open Go.RowKit Go.ChangeShapes Go.WideShapes

theorem cellsStr : Tryz.prog.cellsOf 9 = 1 := by kernel_rfl
end Go.Proofs.YtodjilljcjkacaaGreatDoor
/- An argument that is a struct of five bytes. -/
namespace Go.Proofs.YtodjilljcjkacaaGreatDoor
open Go.RowKit Go.ChangeShapes Go.WideShapes

end Go.Proofs.YtodjilljcjkacaaGreatDoor
/- Laid together: OpenSegs, OpenMsh, OpenHead, OpenAck. -/

/- Arguments that are texts, bytes, slices of texts and signs. -/

/- The table of versions as the statement lays it; arguments that are texts, bytes and slices of texts. -/
namespace Go.Proofs.YtodjilljcjkacaaGreatDoor
open Go.RowKit Go.ChangeShapes Go.WideShapes

theorem cellsArr10 : Tryz.prog.cellsOf 230 = 10 := by kernel_rfl
theorem gVers : Tryz.prog.globalNamed "lamplighter/msh.versions" = some 3 := by kernel_rfl
theorem gtVers : (Tryz.prog.globals[3]?).map (·.type) = some 230 := by kernel_rfl
theorem ba_of_list {s : ByteArray} {l : List UInt8} (h : s.data.toList = l) : s = ⟨l.toArray⟩ := by
  subst h
  apply ByteArray.ext
  simp
set_option maxRecDepth 100000 in
theorem vers_of_laid {W : World} {rest : List (String × DataW Unit)} (h : laidMet Tryz.prog (("lamplighter/msh.versions", Rows.laid_lamplighter_msh_versions) :: rest) W) : Vers W := by
  obtain ⟨ps, ⟨g', t', cs, fuel, p, q, hg', ht', hvar, hd, _, _⟩, _⟩ := h
  obtain rfl := Option.some.inj (gVers.symm.trans hg')
  obtain rfl := Option.some.inj (gtVers.symm.trans ht')
  have hcell := fun i => World.var?_cell gVers hvar i
  obtain ⟨xs, m, _, hx, hl, hn, hi⟩ := DataW.trod_array Tryz.underlying230 hd
  obtain ⟨l⟩ := cs
  simp only [Prod.mk.injEq] at hx hl hi
  have h0 := hi 0 (by omega)
  have h1 := hi 1 (by omega)
  have h2 := hi 2 (by omega)
  have h3 := hi 3 (by omega)
  have h4 := hi 4 (by omega)
  have h5 := hi 5 (by omega)
  have h6 := hi 6 (by omega)
  have h7 := hi 7 (by omega)
  have h8 := hi 8 (by omega)
  have h9 := hi 9 (by omega)
  rw [cellsStr] at h0 h1 h2 h3 h4 h5 h6 h7 h8 h9
  rw [cellsArr10] at hl
  match xs, hn with
  | [x0, x1, x2, x3, x4, x5, x6, x7, x8, x9], _ =>
    obtain ⟨s0, e0, rfl, _⟩ := DataW.trod_string Tryz.underlying9 h0
    obtain ⟨s1, e1, rfl, _⟩ := DataW.trod_string Tryz.underlying9 h1
    obtain ⟨s2, e2, rfl, _⟩ := DataW.trod_string Tryz.underlying9 h2
    obtain ⟨s3, e3, rfl, _⟩ := DataW.trod_string Tryz.underlying9 h3
    obtain ⟨s4, e4, rfl, _⟩ := DataW.trod_string Tryz.underlying9 h4
    obtain ⟨s5, e5, rfl, _⟩ := DataW.trod_string Tryz.underlying9 h5
    obtain ⟨s6, e6, rfl, _⟩ := DataW.trod_string Tryz.underlying9 h6
    obtain ⟨s7, e7, rfl, _⟩ := DataW.trod_string Tryz.underlying9 h7
    obtain ⟨s8, e8, rfl, _⟩ := DataW.trod_string Tryz.underlying9 h8
    obtain ⟨s9, e9, rfl, _⟩ := DataW.trod_string Tryz.underlying9 h9
    match l, hl with
    | [v0, v1, v2, v3, v4, v5, v6, v7, v8, v9], _ =>
      simp at e0 e1 e2 e3 e4 e5 e6 e7 e8 e9
      simp [Rows.laid_lamplighter_msh_versions] at hx
      subst e0 e1 e2 e3 e4 e5 e6 e7 e8 e9
      obtain ⟨⟨y0, y1, y2, y3, y4, y5, y6, y7, y8, y9⟩, _⟩ := hx
      have z0 : s0 = vB 0 := ba_of_list y0.symm
      have z1 : s1 = vB 1 := ba_of_list y1.symm
      have z2 : s2 = vB 2 := ba_of_list y2.symm
      have z3 : s3 = vB 3 := ba_of_list y3.symm
      have z4 : s4 = vB 4 := ba_of_list y4.symm
      have z5 : s5 = vB 5 := ba_of_list y5.symm
      have z6 : s6 = vB 6 := ba_of_list y6.symm
      have z7 : s7 = vB 7 := ba_of_list y7.symm
      have z8 : s8 = vB 8 := ba_of_list y8.symm
      have z9 : s9 = vB 9 := ba_of_list y9.symm
      subst z0 z1 z2 z3 z4 z5 z6 z7 z8 z9
      exact ⟨hcell 0, hcell 1, hcell 2, hcell 3, hcell 4, hcell 5, hcell 6, hcell 7, hcell 8, hcell 9⟩
end Go.Proofs.YtodjilljcjkacaaGreatDoor

/- An argument that is a head. -/
namespace Go.Proofs.YtodjilljcjkacaaGreatDoor
open Go.RowKit Go.ChangeShapes Go.WideShapes

end Go.Proofs.YtodjilljcjkacaaGreatDoor

/- The table of codes as the statement lays it; arguments that are heads. -/
namespace Go.Proofs.YtodjilljcjkacaaGreatDoor
open Go.RowKit Go.ChangeShapes Go.WideShapes

theorem cellsArr3s : Tryz.prog.cellsOf 179 = 3 := by kernel_rfl
theorem gCds : Tryz.prog.globalNamed "lamplighter/ack.codes" = some 1 := by kernel_rfl
theorem gtCds : (Tryz.prog.globals[1]?).map (·.type) = some 179 := by kernel_rfl
theorem ba_of_list3 {s : ByteArray} {l : List UInt8} (h : s.data.toList = l) : s = ⟨l.toArray⟩ := by
  subst h
  apply ByteArray.ext
  simp
set_option maxRecDepth 100000 in
theorem cds_of_laid {W : World} {rest : List (String × DataW Unit)} (h : laidMet Tryz.prog (("lamplighter/ack.codes", Rows.laid_lamplighter_ack_codes) :: rest) W) : Cds W := by
  obtain ⟨ps, ⟨g', t', cs, fuel, p, q, hg', ht', hvar, hd, _, _⟩, _⟩ := h
  obtain rfl := Option.some.inj (gCds.symm.trans hg')
  obtain rfl := Option.some.inj (gtCds.symm.trans ht')
  have hcell := fun i => World.var?_cell gCds hvar i
  obtain ⟨xs, m, _, hx, hl, hn, hi⟩ := DataW.trod_array Tryz.underlying179 hd
  obtain ⟨l⟩ := cs
  simp only [Prod.mk.injEq] at hx hl hi
  have h0 := hi 0 (by omega)
  have h1 := hi 1 (by omega)
  have h2 := hi 2 (by omega)
  rw [cellsStr] at h0 h1 h2
  rw [cellsArr3s] at hl
  match xs, hn with
  | [x0, x1, x2], _ =>
    obtain ⟨s0, e0, rfl, _⟩ := DataW.trod_string Tryz.underlying9 h0
    obtain ⟨s1, e1, rfl, _⟩ := DataW.trod_string Tryz.underlying9 h1
    obtain ⟨s2, e2, rfl, _⟩ := DataW.trod_string Tryz.underlying9 h2
    match l, hl with
    | [v0, v1, v2], _ =>
      simp at e0 e1 e2
      simp [Rows.laid_lamplighter_ack_codes] at hx
      subst e0 e1 e2
      obtain ⟨⟨y0, y1, y2⟩, _⟩ := hx
      have z0 : s0 = cB 0 := ba_of_list3 y0.symm
      have z1 : s1 = cB 1 := ba_of_list3 y1.symm
      have z2 : s2 = cB 2 := ba_of_list3 y2.symm
      subst z0 z1 z2
      exact ⟨hcell 0, hcell 1, hcell 2⟩
end Go.Proofs.YtodjilljcjkacaaGreatDoor

/- The three tables as the statements lay them. -/
namespace Go.Proofs.YtodjilljcjkacaaGreatDoor
open Go.RowKit Go.ChangeShapes Go.WideShapes

theorem laid_tail {P : Program} {x : String × DataW Unit} {r : List (String × DataW Unit)} {w : World} (h : laidMet P (x :: r) w) : laidMet P r w := by
  obtain ⟨ps, hl, hn, hc⟩ := h
  obtain ⟨n, d⟩ := x
  obtain ⟨g, t, cs, fuel, p, q, h1, h2, h3, h4, h5, rfl⟩ := hl
  exact ⟨q, h5, (List.nodup_append.1 hn).2.1, fun b off hm => hc b off (List.mem_append_right _ hm)⟩
theorem gSgs : Tryz.prog.globalNamed "lamplighter/frame.signs" = some 0 := by kernel_rfl
theorem gtSgs : (Tryz.prog.globals[0]?).map (·.type) = some 132 := by kernel_rfl
theorem gcSgs : Tryz.prog.cellsOf 132 = 3 := by kernel_rfl
theorem geSgs : Tryz.prog.cellsOf 5 = 1 := by kernel_rfl
theorem signs_of_laid {W : World} {rest : List (String × DataW Unit)} (h : laidMet Tryz.prog (("lamplighter/frame.signs", Rows.laid_lamplighter_frame_signs) :: rest) W) : Signs W := by
  have t : Lib.TabIs Tryz.prog W "lamplighter/frame.signs" .u8 [11, 28, 13] := Lib.tabIs_of_head (rest := rest) gSgs gtSgs Tryz.underlying132 Tryz.underlying5 geSgs gcSgs h
  exact ⟨t.cell gSgs 0 (by decide), t.cell gSgs 1 (by decide), t.cell gSgs 2 (by decide)⟩
theorem acc_laid {W : World} (h : laidMet Tryz.prog [("lamplighter/frame.signs", Rows.laid_lamplighter_frame_signs), ("lamplighter/msh.versions", Rows.laid_lamplighter_msh_versions), ("lamplighter/ack.codes", Rows.laid_lamplighter_ack_codes)] W) : Vers W ∧ Signs W ∧ Cds W :=
  ⟨vers_of_laid (laid_tail h), signs_of_laid h, cds_of_laid (laid_tail (laid_tail h))⟩
end Go.Proofs.YtodjilljcjkacaaGreatDoor
/- Arguments that are slices of ints, and arrays of two. -/
namespace Go.Proofs.YtodjilljcjkacaaGreatDoor
open Go.RowKit Go.ChangeShapes Go.WideShapes

theorem cellsInt : Tryz.prog.cellsOf 3 = 1 := by kernel_rfl
theorem open_ints' {H : Type} {enc : TypeId × Value → H} {W : World} {A : Option Addr} {len cap : Nat} {d : DataW H} {p : List MemPlace}
    (h : DataW.Trod enc Tryz.prog W 0 (fun _ => true) true 71 (.slice A len cap) d p) : ∃ Z, Is W A len cap Z := by
  obtain ⟨fuel, hf⟩ := h
  rcases open_ints Tryz.underlying71 Tryz.underlying3 cellsInt hf with ⟨hcs, _⟩ | ⟨x, l, c, zs, hcs, _, hl, hm, hz, hx, hcell, hwz⟩
  · simp [Value.cells] at hcs
    obtain ⟨rfl, rfl, rfl⟩ := hcs
    exact ⟨[], rfl, by omega, by simp [maxLen], fun h => by omega⟩
  · simp [Value.cells] at hcs
    obtain ⟨rfl, rfl, rfl⟩ := hcs
    simp only [if_true] at hz
    refine ⟨zs.take len, by rw [List.length_take]; omega, hl, hm, fun hn => ?_⟩
    have h0 := hcell 0 (by omega)
    obtain ⟨b, off, spot⟩ := x
    have hspot : spot = none := by simpa [Addr.add] using World.cell?_spot h0
    subst hspot
    refine ⟨b, off, rfl, World.block_lt_of_cell? W _ h0, fun i y hy => ?_⟩
    rw [List.getElem?_take] at hy
    split at hy
    · have hiz : i < zs.length := by omega
      have hc := hcell i hiz
      rw [Addr.add_lit] at hc
      rw [hc, List.getD_eq_getElem?_getD, hy]
      rfl
    · cases hy
theorem cellsArr2 : Tryz.prog.cellsOf 22 = 2 := by kernel_rfl

set_option maxRecDepth 100000 in
theorem open_arr2 {H : Type} {enc : TypeId × Value → H} {W : World} {base : Nat} {v : Value} {d : DataW H} {p : List MemPlace} (ok : Value.okWide Tryz.prog W .any base 22 v)
    (h : DataW.Trod enc Tryz.prog W 0 (fun _ => true) true 22 v d p) : ∃ a b : Int, v = .agg #[.int .i64 a, .int .i64 b] ∧ d = .agg [.lit (.int .i64 a), .lit (.int .i64 b)] ∧ p = [] := by
  simp only [Value.okWide, Tryz.underlying22] at ok
  obtain ⟨cs, rfl, hsz, _⟩ := ok
  obtain ⟨fuel, hf⟩ := h
  obtain ⟨xs, m, rfl, hx, hl, hn, hi⟩ := DataW.trod_array Tryz.underlying22 hf
  obtain ⟨l⟩ := cs
  simp only [Value.cells, Prod.mk.injEq] at hx hl hi
  have h0 := hi 0 (by omega)
  have h1 := hi 1 (by omega)
  rw [cellsInt] at h0 h1
  rw [cellsArr2] at hl
  match xs, hn with
  | [x0, x1], _ =>
    obtain ⟨n0, e0, rfl, _⟩ := DataW.trod_int Tryz.underlying3 h0
    obtain ⟨n1, e1, rfl, _⟩ := DataW.trod_int Tryz.underlying3 h1
    match l, hl with
    | [v0, v1], _ =>
      simp at e0 e1 hx
      obtain ⟨rfl, rfl⟩ := hx
      subst e0 e1
      exact ⟨n0, n1, rfl, rfl, rfl⟩
end Go.Proofs.YtodjilljcjkacaaGreatDoor
/- InboxPieces: whatever the input, the law's call returns true, and the arguments read afterwards as before. No condition of ours. -/
namespace Go.Proofs.YtodjilljcjkacaaGreatDoor.inboxPieces
open Go.ChangeShapes Go.WideShapes Go.ChangeAt Go.RowKit
open Go.ChangeMaps (open_string shut_string)
set_option linter.unusedVariables false


set_option maxRecDepth 100000 in
/-- what the walk gives, for every argument -/
theorem contract (H : Type) (enc : TypeId × Value → H) (W : World) (base : Nat) (args : Array Value) (ds gs : List (DataW H)) (before : List MemPlace)
    (hval : ∀ (j : Nat) t v, Tryz.f5.params[j]? = some t → args[j]? = some v → Value.okWide Tryz.prog W .any base t v)
    (hW : DataW.Whole enc Tryz.prog Tryz.f5.params.toList Rows.inboxPiecesSpec.vars false W args.toList ds gs before)
    (hsz0 : (DataW.weightsEach Tryz.prog (Tryz.f5.params.toList ++ Rows.inboxPiecesSpec.plain.varTypes Tryz.prog) (ds ++ gs)).all (· ≤ reachBytes) = true) (hL : laidMetH Tryz.prog Rows.inboxPiecesRow.laid W) (hSh : W.ShapedOpen Tryz.prog) :
    Calls Tryz.prog 5 args W fun e W' => ∃ v, e = .returned v ∧ Rows.inboxPiecesSpec.post enc Tryz.prog Tryz.f5 false true false false W args v W' := by
  have hW' := hW
  obtain ⟨p, q, hA0, hV, rfl, hfz, hnd⟩ := hW
  have hA : DataW.TrodAll enc Tryz.prog W 0 (fun _ => true) true Tryz.f5.params.toList args.toList ds p := hA0
  rw [Tryz.params5] at hA hval hsz0
  obtain ⟨v0, vs0, d0, ds0, p0, q0, hargs, rfl, rfl, h0, r0⟩ := trodAll_cons hA
  obtain ⟨v1, vs1, d1, ds1, p1, q1, rfl, rfl, rfl, h1, r1⟩ := trodAll_cons r0
  obtain ⟨v2, vs2, d2, ds2, p2, q2, rfl, rfl, rfl, h2, r2⟩ := trodAll_cons r1
  obtain ⟨rfl, rfl, rfl⟩ := trodAll_nil r2
  obtain rfl : args = #[v0, v1, v2] := by cases args; simp_all
  obtain ⟨rfl, rfl⟩ := trodVars_none hV
  have hsz : (DataW.weightsEach Tryz.prog [22, 40, 71] [d0, d1, d2]).all (· ≤ reachBytes) = true := by
    have hv : Rows.inboxPiecesSpec.plain.varTypes Tryz.prog = [] := rfl
    rw [hv] at hsz0
    simpa using hsz0
  have k0 := h0
  obtain ⟨x0, y0, rfl, rfl, rfl⟩ := open_arr2 (hval 0 22 v0 rfl rfl) h0
  obtain ⟨A1, n1, c1, rfl⟩ := okWide_slice Tryz.underlying40 (hval 1 40 v1 rfl rfl)
  have k1 := h1
  have lt1 : ∀ x ∈ p1, x.block < W.heap.size := by obtain ⟨m, hm⟩ := k1; exact DataW.trod_lt m _ _ _ hm
  obtain ⟨l1, B1, R1⟩ := open_bytes h1 1 rfl rfl hsz
  obtain ⟨A2, n2, c2, rfl⟩ := okWide_slice Tryz.underlying71 (hval 2 71 v2 rfl rfl)
  have k2 := h2
  have lt2 : ∀ x ∈ p2, x.block < W.heap.size := by obtain ⟨m, hm⟩ := k2; exact DataW.trod_lt m _ _ _ hm
  obtain ⟨l2, B2⟩ := open_ints' h2
  clear hA0
  refine (inboxPieces_walk x0 y0 A1 n1 c1 l1 A2 n2 c2 l2 W (acc_laid hL) B1 R1 B2 ).mono fun e W' ⟨he, bel⟩ => ?_
  subst he
  exact ⟨_, rfl, _, _, _, [], _, [], hW', trodAll_mk1 (shut_bool Tryz.underlying4 _), (trodAll_cons_mk (Below.trod laidOut (by kernel_rfl) (of_decide_eq_true (by kernel_rfl)) k0 bel (fun x hx => by cases hx)) (trodAll_cons_mk (Below.trod laidOut (by kernel_rfl) (of_decide_eq_true (by kernel_rfl)) k1 bel lt1) (trodAll_cons_mk (Below.trod laidOut (by kernel_rfl) (of_decide_eq_true (by kernel_rfl)) k2 bel lt2) trodAll_mk0))), rfl, bel.frame _, fun h => by cases h⟩

/-- a world in which the listed variables hold what the program's text lays -/
noncomputable def laidWorld (os : Os) : World :=
  { World.holding Tryz.prog os ⟨#[], #[], []⟩ with heap := ((((World.holding Tryz.prog os ⟨#[], #[], []⟩).heap.modify 0 fun
      | .cells _ t frozen => .cells #[.int .u8 11, .int .u8 28, .int .u8 13] t frozen
      | o => o).modify 3 fun
      | .cells _ t frozen => .cells #[.string ⟨#[50, 46, 49]⟩, .string ⟨#[50, 46, 50]⟩, .string ⟨#[50, 46, 51]⟩, .string ⟨#[50, 46, 51, 46, 49]⟩, .string ⟨#[50, 46, 52]⟩, .string ⟨#[50, 46, 53]⟩, .string ⟨#[50, 46, 53, 46, 49]⟩, .string ⟨#[50, 46, 54]⟩, .string ⟨#[50, 46, 55]⟩, .string ⟨#[50, 46, 56]⟩] t frozen
      | o => o).modify 1 fun
      | .cells _ t frozen => .cells #[.string ⟨#[65, 65]⟩, .string ⟨#[65, 69]⟩, .string ⟨#[65, 82]⟩] t frozen
      | o => o) }
theorem laid_met (os : Os) : laidMet Tryz.prog Rows.inboxPiecesRow.laid ((laidWorld os).forCall (fun _ _ => 0) ⟨#[], #[.agg #[.int .i64 0, .int .i64 0], .slice none 0 0, .slice none 0 0], []⟩).memory :=
  laidMet_of_run' 8 (by kernel_rfl) (by kernel_rfl)
theorem reads (os : Os) {H : Type} (enc : TypeId × Value → H) : ∃ places, DataW.whole enc Tryz.prog ((laidWorld os).forCall (fun _ _ => 0) ⟨#[], #[.agg #[.int .i64 0, .int .i64 0], .slice none 0 0, .slice none 0 0], []⟩).memory Tryz.f5.params.toList Rows.inboxPiecesSpec.vars false (#[.agg #[.int .i64 0, .int .i64 0], .slice none 0 0, .slice none 0 0] : Array Value).toList 8 = some ([.agg [.lit (.int .i64 0), .lit (.int .i64 0)], .nil, .nil], [], places) :=
  ⟨[], by kernel_rfl⟩

set_option maxRecDepth 100000 in
theorem lifted (os : Os) (started : os.Started) (H : Type) (enc : TypeId × Value → H) (F : Stop.Interp) :
    ReturnsInHanded {} Tryz.checked os 5 .any ((OpenSpec.ofChange Rows.inboxPiecesSpec).preRow enc Tryz.prog Tryz.f5 Rows.inboxPiecesRow.domain false Rows.inboxPiecesRow.laid) (((OpenSpec.ofChange Rows.inboxPiecesSpec).at F).post enc Tryz.prog Tryz.f5 false true false false) := by
  obtain ⟨places, hx⟩ := reads os enc
  refine returnsInHanded_of_row (C := Tryz.checked) (s := (OpenSpec.ofChange Rows.inboxPiecesSpec)) own started (by kernel_rfl) Tryz.func5
    (witness_row_at (enc := enc) (C := Tryz.checked) false (laidWorld os) #[.agg #[.int .i64 0, .int .i64 0], .slice none 0 0, .slice none 0 0] rfl (by kernel_rfl) (by kernel_rfl) (by kernel_rfl)
      (OpenSpec.preRow_of_cond 8 hx (by kernel_rfl) (fun k hk => by cases hk) (by kernel_rfl) (laid_met os))) ?_
  intro W base args ds gs before hval hW _ hcond hsz hL hSh _
  exact contract H enc W base args ds gs before hval hW hsz hL hSh

theorem said : Rows.InboxPiecesSaid :=
  OpenClaim.holds_of_cond 5 Tryz.f5 rfl rfl rfl rfl rfl rfl rfl ⟨rfl, rfl, rfl, rfl, rfl⟩ rfl rfl rfl rfl rfl (by kernel_rfl) Tryz.func5 (by kernel_rfl)
    (of_decide_eq_true (by kernel_rfl)) (by unfold Func.isWrapper; first | (rw [if_pos (by decide +kernel)]; kernel_rfl) | (rw [if_neg (by decide +kernel)]; exact ⟨rfl, rfl⟩))
    (fun os started H enc _ F => by rw [OpenClaim.pre_eq_preRow]; exact lifted os started H enc F)

theorem plain (f : FuncId) (fn : Func) (hf : Tryz.pinned.checked.prog.funcNamed "lamplighter/lamplighterlaw17.InboxPieces" = some f) (hfn : Tryz.pinned.checked.prog.funcs[f]? = some fn) :
    true = Tryz.pinned.checked.prog.looks [] ∧ ∀ (j : Nat) t, fn.params[j]? = some t → Tryz.pinned.checked.prog.wantsStandIn t = false := by
  obtain rfl : f = 5 := Option.some.inj ((show Tryz.prog.funcNamed "lamplighter/lamplighterlaw17.InboxPieces" = some 5 by kernel_rfl).symm.trans hf) |>.symm
  obtain rfl : fn = Tryz.f5 := (Option.some.inj (Tryz.func5.symm.trans hfn)).symm
  refine ⟨by kernel_rfl, fun j t ht => ?_⟩
  rw [Tryz.params5] at ht

  have z22 : Tryz.prog.wantsStandIn 22 = false := by kernel_rfl
  have z40 : Tryz.prog.wantsStandIn 40 = false := by kernel_rfl
  have z71 : Tryz.prog.wantsStandIn 71 = false := by kernel_rfl
  rcases j with _ | _ | _ | j
  · obtain rfl : t = 22 := by simpa using ht.symm
    exact z22
  · obtain rfl : t = 40 := by simpa using ht.symm
    exact z40
  · obtain rfl : t = 71 := by simpa using ht.symm
    exact z71
  · simp at ht

/-- the card -/
theorem card : Rows.InboxPiecesCardSaid :=
  Claim7.holds_tied_plain_at .later [] _ _ _ _ said (fun _ h => by cases h) (by kernel_rfl) (fun _ h => by cases h) inboxPieces_row_tie rfl ⟨rfl, rfl⟩ (by kernel_rfl) rfl plain (by kernel_rfl)
end Go.Proofs.YtodjilljcjkacaaGreatDoor.inboxPieces
