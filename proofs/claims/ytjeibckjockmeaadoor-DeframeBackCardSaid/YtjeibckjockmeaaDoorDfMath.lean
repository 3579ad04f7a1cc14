/- Layer 5: bytes in a row. -/
import Derived.Test.YtjeibckjockmeaaDoorDf4
namespace Go.Proofs.YtjeibckjockmeaaDoor
open Go.RowKit

def eatD (most : Nat) (p : St × List (List UInt8)) (c : UInt8) : St × List (List UInt8) :=
  if (stepD most p.1 c).2 then (leaveS (stepD most p.1 c).1, p.2 ++ [(stepD most p.1 c).1.fr]) else ((stepD most p.1 c).1, p.2)
/-- the state behind bytes, and what was in the frames that they end -/
def feedD (most : Nat) (s : St) (l : List UInt8) : St × List (List UInt8) := l.foldl (eatD most) (s, [])
theorem feedD_nil (most : Nat) (s : St) : feedD most s [] = (s, []) := rfl
theorem feedD_snoc (most : Nat) (s : St) (l : List UInt8) (c : UInt8) : feedD most s (l ++ [c]) = eatD most (feedD most s l) c := by
  simp [feedD, List.foldl_append]
theorem eat_one (most : Nat) (s : St) (X : List (List UInt8)) (c : UInt8) : eatD most (s, X) c = ((eatD most (s, []) c).1, X ++ (eatD most (s, []) c).2) := by
  simp only [eatD]
  split <;> simp
theorem eat_shift (most : Nat) : ∀ (l : List UInt8) (s : St) (X : List (List UInt8)), l.foldl (eatD most) (s, X) = ((feedD most s l).1, X ++ (feedD most s l).2)
  | [], s, X => by simp [feedD]
  | c :: r, s, X => by
    rw [List.foldl_cons, eat_one, eat_shift most r, show feedD most s (c :: r) = r.foldl (eatD most) ((eatD most (s, []) c).1, (eatD most (s, []) c).2) from rfl, eat_shift most r (eatD most (s, []) c).1 (eatD most (s, []) c).2]
    simp
theorem feedD_append (most : Nat) (s : St) (a b : List UInt8) : feedD most s (a ++ b) = ((feedD most (feedD most s a).1 b).1, (feedD most s a).2 ++ (feedD most (feedD most s a).1 b).2) := by
  rw [feedD, List.foldl_append, show a.foldl (eatD most) (s, []) = feedD most s a from rfl]
  exact eat_shift most b (feedD most s a).1 (feedD most s a).2

/-- counts and the frame's bytes are bounded -/
structure St.Up (most M : Nat) (s : St) : Prop where
  junk : s.junk ≤ M
  over : s.over ≤ M
  broken : s.broken ≤ M
  fr : s.fr.length ≤ most
theorem St.Up.more {most M M' : Nat} {s : St} (h : St.Up most M s) (hm : M ≤ M') : St.Up most M' s := ⟨Nat.le_trans h.junk hm, Nat.le_trans h.over hm, Nat.le_trans h.broken hm, h.fr⟩
theorem St.Up.ok {most M : Nat} {s : St} (h : St.Up most M s) (hM : M ≤ 1099511627776) (hm : most ≤ 1000000) : s.Ok := ⟨Nat.le_trans h.junk hM, Nat.le_trans h.over hM, Nat.le_trans h.broken hM, Nat.le_trans h.fr hm⟩
theorem layS_up {most M : Nat} {s : St} (h : St.Up most M s) (bs : List UInt8) : St.Up most (M + 1) (layS most s bs) := by
  have := h.junk; have := h.over; have := h.broken; have := h.fr
  unfold layS
  split
  · exact ⟨by simp [leaveS]; omega, by simp [leaveS]; omega, by simp [leaveS]; omega, by simp [leaveS]⟩
  · exact ⟨by simp; omega, by simp; omega, by simp; omega, by simp; omega⟩
theorem step_up {most M : Nat} {s : St} (h : St.Up most M s) (c : UInt8) : St.Up most (M + 1) (stepD most s c).1 := by
  have hj := h.junk; have ho := h.over; have hb := h.broken; have hf := h.fr
  have e1 : St.Up most (M + 1) (enterS { s with broken := s.broken + 1 }) := ⟨by simp [enterS]; omega, by simp [enterS]; omega, by simp [enterS]; omega, by simp [enterS]⟩
  unfold stepD
  cases s.md <;> simp only
  · split
    · exact ⟨by simp [enterS]; omega, by simp [enterS]; omega, by simp [enterS]; omega, by simp [enterS]⟩
    · exact ⟨by simp; omega, by simp; omega, by simp; omega, hf⟩
  · split
    · exact e1
    · split
      · exact ⟨by simp; omega, by simp; omega, by simp; omega, hf⟩
      · exact layS_up h [c]
  · split
    · exact h.more (by omega)
    · split
      · exact e1
      · split
        · exact layS_up h [28]
        · exact layS_up (s := { s with md := .inn }) ⟨hj, ho, hb, hf⟩ [28, c]
theorem eat_up {most M : Nat} {p : St × List (List UInt8)} (h : St.Up most M p.1) (c : UInt8) : St.Up most (M + 1) (eatD most p c).1 := by
  have := step_up h c
  unfold eatD
  split
  · exact ⟨this.junk, this.over, this.broken, Nat.zero_le _⟩
  · exact this
theorem feed_up {most M : Nat} {s : St} (h : St.Up most M s) (l : List UInt8) : ∀ k, k ≤ l.length → St.Up most (M + k) (feedD most s (l.take k)).1
  | 0, _ => by simpa [feedD] using h
  | k + 1, hk => by
    have := eat_up (feed_up h l k (by omega)) (l[k]'(by omega))
    rw [List.take_succ_eq_append_getElem (by omega), feedD_snoc]
    exact this
theorem feed_len (most : Nat) (s : St) (l : List UInt8) : ∀ k, k ≤ l.length → (feedD most s (l.take k)).2.length ≤ k
  | 0, _ => by simp [feedD]
  | k + 1, hk => by
    have := feed_len most s l k (by omega)
    rw [List.take_succ_eq_append_getElem (by omega), feedD_snoc]
    unfold eatD
    split
    · simp; omega
    · simp; omega
end Go.Proofs.YtjeibckjockmeaaDoor
