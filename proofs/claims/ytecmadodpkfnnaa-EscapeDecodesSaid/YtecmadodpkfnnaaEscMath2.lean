/- Layer 7: texts behind one another, and back. -/
import Derived.Test.YtecmadodpkfnnaaEsc6
namespace Go.Proofs.Ytecmadodpkfnnaa
open Go.RowKit Go.MapKept

theorem indexByte_app (l k : List UInt8) (c : UInt8) (h : 0 ≤ Lib.indexByte l c) : Lib.indexByte (l ++ k) c = Lib.indexByte l c := by
  induction l with
  | nil => simp [Lib.indexByte] at h
  | cons b r ih =>
    rw [List.cons_append]
    unfold Lib.indexByte at h ⊢
    split
    · rfl
    · rename_i hb
      rw [if_neg hb] at h
      by_cases hn : Lib.indexByte r c == -1
      · rw [if_pos hn] at h; simp at h
      · have hge := Lib.indexByte_ge r c
        have hne : Lib.indexByte r c ≠ -1 := by simpa using hn
        rw [ih (by omega)]
theorem firstD_app {s : Sgn} {l : List UInt8} {t : List UInt8} {n : Nat} (k : List UInt8) (h : firstD s l = some (t, n)) : firstD s (l ++ k) = some (t, n) := by
  cases l with
  | nil => simp [firstD, Lib.indexByte] at h
  | cons b r =>
    unfold firstD at h ⊢
    rw [List.cons_append]
    simp only [List.drop_succ_cons, List.drop_zero, List.getD_cons_zero] at h ⊢
    split at h
    · cases h
    · rename_i hn
      have hlt := indexByte_lt r b
      rw [indexByte_app r k b (by omega), if_neg hn, List.take_append_of_le_length (by omega), h]
theorem decG_app (s : Sgn) : ∀ (f g : Nat) (x y a : List UInt8) (p : Nat), x.length ≤ f → (x ++ y).length ≤ g → decG s f x p = .ok a → decG s g (x ++ y) p = (decG s y.length y (p + x.length)).map (a ++ ·)
  | 0, g, x, y, a, p, hf, hg, h => by
    obtain rfl : x = [] := List.length_eq_zero_iff.1 (by omega)
    simp only [decG, Except.ok.injEq] at h
    subst h
    simp only [List.nil_append, List.length_nil, Nat.add_zero] at hg ⊢
    rw [decG_more s g y.length y p hg (Nat.le_refl _)]
    cases decG s y.length y p <;> rfl
  | f + 1, g, [], y, a, p, hf, hg, h => by
    simp only [decG, Except.ok.injEq] at h
    subst h
    simp only [List.nil_append, List.length_nil, Nat.add_zero] at hg ⊢
    rw [decG_more s g y.length y p hg (Nat.le_refl _)]
    cases decG s y.length y p <;> rfl
  | f + 1, 0, c :: r, y, a, p, hf, hg, h => by simp at hg
  | f + 1, g + 1, c :: r, y, a, p, hf, hg, h => by
    simp only [List.length_cons, List.cons_append] at hf hg ⊢
    rw [decG] at h ⊢
    by_cases hc : c ≠ s.d
    · rw [if_pos hc] at h ⊢
      cases hd : decG s f r (p + 1) with
      | error q => rw [hd] at h; simp [Except.map] at h
      | ok b =>
        rw [hd] at h
        simp only [Except.map, Except.ok.injEq] at h
        subst h
        rw [decG_app s f g r y b (p + 1) (by omega) (by omega) hd, show p + 1 + r.length = p + (r.length + 1) by omega]
        cases decG s y.length y (p + (r.length + 1)) <;> simp [Except.map]
    · rw [if_neg hc] at h ⊢
      cases hd : firstD s (c :: r) with
      | none => rw [hd] at h; simp at h
      | some q =>
        obtain ⟨t, n⟩ := q
        have hn := firstD_len hd
        have ha := firstD_app y hd
        rw [List.cons_append] at ha
        rw [hd] at h
        rw [ha]
        simp only at h ⊢
        cases he : decG s f ((c :: r).drop n) (p + n) with
        | error q => rw [he] at h; simp [Except.map] at h
        | ok b =>
          rw [he] at h
          simp only [Except.map, Except.ok.injEq] at h
          subst h
          have hl : ((c :: r).drop n).length = r.length + 1 - n := by rw [List.length_drop, List.length_cons]
          simp only [List.length_cons] at hn
          rw [← List.cons_append, List.drop_append_of_le_length (by simp; omega), decG_app s f g ((c :: r).drop n) y b (p + n) (by omega) (by rw [List.length_append, hl]; rw [List.length_append] at hg; omega) he, hl, show p + n + (r.length + 1 - n) = p + (r.length + 1) by omega]
          cases decG s y.length y (p + (r.length + 1)) <;> simp [Except.map]
theorem decG_shift (s : Sgn) : ∀ (f : Nat) (x : List UInt8) (p q : Nat) (a : List UInt8), decG s f x p = .ok a → decG s f x q = .ok a
  | 0, _, _, _, _, h => by rw [decG] at h ⊢; exact h
  | f + 1, [], _, _, _, h => by rw [decG] at h ⊢; exact h
  | f + 1, c :: r, p, q, a, h => by
    rw [decG] at h ⊢
    by_cases hc : c ≠ s.d
    · rw [if_pos hc] at h ⊢
      cases hd : decG s f r (p + 1) with
      | error q => rw [hd] at h; simp [Except.map] at h
      | ok b => rw [hd] at h; rw [decG_shift s f r (p + 1) (q + 1) b hd]; exact h
    · rw [if_neg hc] at h ⊢
      cases hd : firstD s (c :: r) with
      | none => rw [hd] at h; simp at h
      | some v =>
        obtain ⟨t, n⟩ := v
        rw [hd] at h
        simp only at h ⊢
        cases he : decG s f ((c :: r).drop n) (p + n) with
        | error q => rw [he] at h; simp [Except.map] at h
        | ok b => rw [he] at h; rw [decG_shift s f _ (p + n) (q + n) b he]; exact h
/-- two texts behind one another -/
theorem decD_join {s : Sgn} {x y a b : List UInt8} (hx : decD s x = .ok a) (hy : decD s y = .ok b) : decD s (x ++ y) = .ok (a ++ b) := by
  unfold decD at hx hy ⊢
  rw [decG_app s x.length _ x y a 0 (Nat.le_refl _) (Nat.le_refl _) hx, decG_shift s y.length y 0 _ b hy]
  rfl
theorem decG_err (s : Sgn) : ∀ (f : Nat) (x : List UInt8) (p e : Nat), decG s f x p = .error e → p ≤ e ∧ e < p + x.length ∧ x.getD (e - p) 0 = s.d
  | 0, _, _, _, h => by rw [decG] at h; cases h
  | f + 1, [], _, _, h => by rw [decG] at h; cases h
  | f + 1, c :: r, p, e, h => by
    rw [decG] at h
    by_cases hc : c ≠ s.d
    · rw [if_pos hc] at h
      cases hd : decG s f r (p + 1) with
      | ok b => rw [hd] at h; simp [Except.map] at h
      | error q =>
        rw [hd] at h
        simp only [Except.map, Except.error.injEq] at h
        subst h
        have := decG_err s f r (p + 1) q hd
        rw [List.length_cons]
        refine ⟨by omega, by omega, ?_⟩
        rw [show q - p = (q - (p + 1)) + 1 by omega, List.getD_cons_succ]
        exact this.2.2
    · rw [if_neg hc] at h
      cases hd : firstD s (c :: r) with
      | none =>
        rw [hd] at h
        simp only [Except.error.injEq] at h
        subst h
        refine ⟨Nat.le_refl _, by simp, ?_⟩
        rw [Nat.sub_self, List.getD_cons_zero]
        exact Classical.not_not.1 hc
      | some v =>
        obtain ⟨t, n⟩ := v
        have hn := firstD_len hd
        rw [hd] at h
        simp only at h
        cases he : decG s f ((c :: r).drop n) (p + n) with
        | ok b => rw [he] at h; simp [Except.map] at h
        | error q =>
          rw [he] at h
          simp only [Except.map, Except.error.injEq] at h
          subst h
          obtain ⟨h1, h2, h3⟩ := decG_err s f _ (p + n) q he
          rw [List.length_drop] at h2
          refine ⟨by omega, by omega, ?_⟩
          rw [List.getD_eq_getElem?_getD, List.getElem?_drop, ← List.getD_eq_getElem?_getD, show n + (q - (p + n)) = q - p by omega] at h3
          exact h3
theorem decG_short (s : Sgn) : ∀ (f : Nat) (x : List UInt8) (p : Nat) (a : List UInt8), decG s f x p = .ok a → a.length ≤ x.length
  | 0, _, _, _, h => by rw [decG] at h; cases h; simp
  | f + 1, [], _, _, h => by rw [decG] at h; cases h; simp
  | f + 1, c :: r, p, a, h => by
    rw [decG] at h
    by_cases hc : c ≠ s.d
    · rw [if_pos hc] at h
      cases hd : decG s f r (p + 1) with
      | error q => rw [hd] at h; simp [Except.map] at h
      | ok b =>
        rw [hd] at h
        simp only [Except.map, Except.ok.injEq] at h
        subst h
        have := decG_short s f r (p + 1) b hd
        simp only [List.length_cons]
        omega
    · rw [if_neg hc] at h
      cases hd : firstD s (c :: r) with
      | none => rw [hd] at h; simp at h
      | some v =>
        obtain ⟨t, n⟩ := v
        have hn := firstD_len hd
        have hs := firstD_short hd
        rw [hd] at h
        simp only at h
        cases he : decG s f ((c :: r).drop n) (p + n) with
        | error q => rw [he] at h; simp [Except.map] at h
        | ok b =>
          rw [he] at h
          simp only [Except.map, Except.ok.injEq] at h
          subst h
          have := decG_short s f _ (p + n) b he
          rw [List.length_drop] at this
          rw [List.length_append]
          omega
theorem decD_cases (s : Sgn) (x : List UInt8) : (∃ a, decD s x = .ok a ∧ a.length ≤ x.length) ∨ (∃ e, decD s x = .error e ∧ e < x.length ∧ x.getD e 0 = s.d) := by
  cases h : decD s x with
  | ok a => exact .inl ⟨a, rfl, decG_short s _ x 0 a h⟩
  | error e =>
    have := decG_err s _ x 0 e h
    exact .inr ⟨e, rfl, by omega, by have := this.2.2; rwa [Nat.sub_zero] at this⟩
end Go.Proofs.Ytecmadodpkfnnaa
