/- Layer 19: steps that a call has made itself: an output more, and the power gone. -/
import Derived.Test.YtnoppnnpennddaaDoorTrP
import Derived.OneCell
namespace Go.Proofs.YtnoppnnpennddaaDoor
open Go.RowKit

theorem row_ch {X : Nat → Prop} {w w' : World} {B n s : Nat} {e : TypeId} {v : Value} {xs : List Value} (h : w.ownsRow B e s v n xs) (hc : Ch X w w') (hn : ∀ k, v.ownBlock = some k → ¬ X k) : w'.ownsRow B e s v n xs := by
  refine ⟨h.1, ?_⟩
  rcases h.2 with h0 | ⟨g, cap, cur, rfl, q1, q2, q3⟩
  · exact .inl h0
  · exact .inr ⟨g, cap, cur, rfl, q1, hc.row q2 (hn g rfl), q3⟩
theorem last_set {L0 : List TStep} {P0 : List (Value × Value)} (h : P0.length = L0.length) (t : List Value) (j : Nat) (v : Value) : (stepsC L0 P0 ++ t).set (L0.length * 6 + j) v = stepsC L0 P0 ++ t.set j v := by
  have hl := stepsC_len h
  rw [List.set_append, if_neg (by omega), hl, Nat.add_sub_cancel_left]
theorem outsC_snoc : ∀ {L : List TOut} {D : List Value} (x : TOut) (d : Value), D.length = L.length → outsC (L ++ [x]) (D ++ [d]) = outsC L D ++ [.bool x.back, d]
  | [], [], x, d, _ => by simp [outsC]
  | y :: L, q :: D, x, d, h => by
    have := outsC_snoc (L := L) (D := D) x d (by simpa using h)
    simp only [List.cons_append, outsC, this]
/-- the power went -/
theorem PSt1.crash {w : World} {B g cap : Nat} {L0 : List TStep} {P0 : List (Value × Value)} {x : TStep} {dv ov : Value} {D : List Value} (h : PSt1 w B g cap L0 P0 x dv ov D) : PSt1 (w.setCell ⟨g, L0.length * 6 + 5, none⟩ (.bool true)) B g cap L0 P0 { x with cr := true } dv ov D := by
  obtain ⟨h1, h2, h3, h4, h5, h6, h7⟩ := h
  have hc : Ch (XS g ov) w (w.setCell ⟨g, L0.length * 6 + 5, none⟩ (.bool true)) := (Ch.refl _ w).set (a := ⟨g, L0.length * 6 + 5, none⟩) (.inl rfl) _
  have hs := (World.ownsRow.stored h2 (L0.length * 6 + 5) (.bool true)).1
  rw [last_set h1] at hs
  exact ⟨h1, hs, fun i y p hy hp => ⟨(h3 i y p hy hp).1.ch hc (fun _ _ h => h), (h3 i y p hy hp).2.ch hc (fun _ _ h => h)⟩, h4.ch hc (fun _ _ h => h), h5, ownsRow_setCell_other h6 (own_apart h6 h2 (by decide) rfl) _, fun i y d hy hd => (h7 i y d hy hd).ch hc (fun _ _ h => h)⟩
/-- an output more -/
theorem PSt1.out {w w' : World} {B g cap : Nat} {L0 : List TStep} {P0 : List (Value × Value)} {x : TStep} {dv ov : Value} {D : List Value} (h : PSt1 w B g cap L0 P0 x dv ov D) (o : TOut) (dA ov' : Value)
    (ho : w'.ownsRow B TO 2 ov' (x.outs.length + 1) (outsC x.outs D ++ [.bool o.back, dA])) (hc : Ch (fun b => ov.ownBlock = some b) w w') (hg : ∀ k, ov'.ownBlock = some k → ov.ownBlock = some k ∨ w.heap.size ≤ k) (hd : BsX (XS g ov') w' dA o.l) :
    PSt1 (w'.setCell ⟨g, L0.length * 6 + 4, none⟩ ov') B g cap L0 P0 { x with outs := x.outs ++ [o] } dv ov' (D ++ [dA]) := by
  obtain ⟨h1, h2, h3, h4, h5, h6, h7⟩ := h
  have hng : ov.ownBlock ≠ some g := own_apart h6 h2 (by decide) rfl
  have h2' := row_ch h2 hc (fun k hk hx => by
    simp only [Value.ownBlock, Option.some.injEq] at hk
    subst hk
    exact hng hx)
  have hs := (World.ownsRow.stored h2' (L0.length * 6 + 4) ov').1
  rw [last_set h1] at hs
  have hcX : Ch (XS g ov) w (w'.setCell ⟨g, L0.length * 6 + 4, none⟩ ov') := (Ch.wide hc (fun b h => .inr h)).set (a := ⟨g, L0.length * 6 + 4, none⟩) (.inl rfl) _
  have hY : ∀ b, b < w.heap.size → XS g ov' b → XS g ov b := by
    rintro b hb (h | h)
    · exact .inl h
    · rcases hg b h with h | h
      · exact .inr h
      · omega
  have hc2 : Ch (XS g ov') w' (w'.setCell ⟨g, L0.length * 6 + 4, none⟩ ov') := (Ch.refl _ w').set (a := ⟨g, L0.length * 6 + 4, none⟩) (.inl rfl) _
  refine ⟨h1, hs, fun i y p hy hp => ⟨(h3 i y p hy hp).1.ch hcX hY, (h3 i y p hy hp).2.ch hcX hY⟩, h4.ch hcX hY, by simp [h5], ?_, fun i y d hy hdd => ?_⟩
  · have := ownsRow_setCell_other ho (a := ⟨g, L0.length * 6 + 4, none⟩) (own_apart ho h2' (by decide) rfl) ov'
    rw [← outsC_snoc o dA h5] at this
    simpa using this
  · by_cases hlt : i < x.outs.length
    · rw [List.getElem?_append_left hlt] at hy
      rw [List.getElem?_append_left (by omega)] at hdd
      exact (h7 i y d hy hdd).ch hcX hY
    · have hi : i = x.outs.length := by
        have := (List.getElem?_eq_some_iff.1 hy).1
        simp only [List.length_append, List.length_cons, List.length_nil] at this
        omega
      subst hi
      rw [List.getElem?_append_right (Nat.le_refl _), Nat.sub_self] at hy
      rw [List.getElem?_append_right (by omega), h5, Nat.sub_self] at hdd
      simp only [List.getElem?_cons_zero, Option.some.injEq] at hy hdd
      subst hy hdd
      exact hd.ch hc2 (fun _ _ h => h)
/-- the first step -/
theorem PSt1.first {w : World} {B g cap : Nat} (y : TStep) (dv : Value) (hy : y.outs = []) (ho : w.ownsRow B TS 6 (.slice (some ⟨g, 0, none⟩) 1 cap) 1 (stepC y (dv, nilE))) (hd : BsX (XS g nilE) w dv y.l) : PSt1 w B g cap [] [] y dv nilE [] := by
  refine ⟨rfl, by simpa [stepsC] using ho, fun i z p hz => by simp at hz, hd, by simp [hy], ?_, fun i z d hz => by simp [hy] at hz⟩
  rw [hy]
  exact World.ownsRow_nil _ _ _ _
end Go.Proofs.YtnoppnnpennddaaDoor
