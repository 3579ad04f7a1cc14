/- Layer 13: records behind each other, cut anywhere, as plain lists. -/
import Derived.Test.YthblbmbefhlbjaaScanJoin
namespace Go.Proofs.Ythblbmbefhlbjaa
open Go.RowKit

/-- how many of them are whole in k bytes, and how many bytes these have -/
def cutI : List (List UInt8) → Nat → Nat × Nat
  | [], _ => (0, 0)
  | b :: r, k => if k < 8 + b.length then (0, 0) else ((cutI r (k - (8 + b.length))).1 + 1, 8 + b.length + (cutI r (k - (8 + b.length))).2)
def recs (own : List (List UInt8)) : List UInt8 := (own.map record).flatten
theorem recs_nil : recs [] = [] := rfl
theorem recs_cons (b : List UInt8) (r : List (List UInt8)) : recs (b :: r) = record b ++ recs r := by simp [recs]
theorem recs_snoc (L : List (List UInt8)) (b : List UInt8) : recs (L ++ [b]) = recs L ++ record b := by simp [recs]

theorem get_short {b : List UInt8} (hok : okLen b.length = true) (k : Nat) (hk : k < 8 + b.length) : getErr ((record b).take k) = 7 := by
  unfold getErr
  have hl : ((record b).take k).length = k := by rw [List.length_take, record_length]; omega
  by_cases h8 : k < 8
  · rw [if_pos (by omega)]
  have e4 : ((record b).take k).take 4 = be4 b.length := by
    rw [List.take_take, show min 4 k = 4 from by omega]
    unfold record
    rw [List.append_assoc, List.take_append_of_le_length (by simp [be4]), List.take_of_length_le (by simp [be4])]
  have hb := okLen_yes hok
  rw [if_neg (by omega), e4, beNum_be4 (by omega), if_neg (by rw [hok]; decide), if_pos (by omega)]

theorem cut_scan : ∀ (own : List (List UInt8)) (k : Nat), (∀ x ∈ own, okLen x.length = true) → k ≤ (recs own).length →
    scan ((recs own).take k) = (own.take (cutI own k).1, (cutI own k).2, if (cutI own k).2 = k then 0 else 7)
  | [], k, _, hk => by
    have h0 : k = 0 := by simpa [recs] using hk
    subst h0
    rfl
  | b :: r, k, hok, hk => by
    have hb := hok b (by simp)
    rw [recs_cons] at hk ⊢
    by_cases hlt : k < 8 + b.length
    · have hc : cutI (b :: r) k = (0, 0) := by simp [cutI, hlt]
      rw [hc, List.take_append_of_le_length (by rw [record_length]; omega)]
      by_cases h0 : k = 0
      · subst h0
        simp [scan_nil]
      · have he := get_short hb k hlt
        have hl : ((record b).take k).length = k := by rw [List.length_take, record_length]; omega
        rw [scan_err (by omega) (by omega), he, if_neg (by omega)]
        rfl
    · obtain ⟨j, hj⟩ : ∃ j, k = 8 + b.length + j := ⟨k - (8 + b.length), by omega⟩
      subst hj
      have hc : cutI (b :: r) (8 + b.length + j) = ((cutI r j).1 + 1, 8 + b.length + (cutI r j).2) := by
        simp only [cutI, if_neg hlt, show 8 + b.length + j - (8 + b.length) = j from by omega]
      have ht : (record b ++ recs r).take (8 + b.length + j) = record b ++ (recs r).take j := by
        rw [List.take_append, List.take_of_length_le (by rw [record_length]; omega), record_length, show 8 + b.length + j - (8 + b.length) = j from by omega]
      obtain ⟨g1, g2, g3⟩ := get_record b ((recs r).take j) hb
      have hs := scan_ok g1
      have hd : (record b ++ (recs r).take j).drop (8 + b.length) = (recs r).take j := List.drop_left' (by rw [record_length])
      have ih := cut_scan r j (fun x hx => hok x (List.mem_cons_of_mem _ hx)) (by rw [List.length_append, record_length] at hk; omega)
      rw [g2, g3, hd, ih] at hs
      rw [ht, hs, hc]
      refine Prod.ext (by simp) (Prod.ext rfl ?_)
      show (if (cutI r j).2 = j then (0 : Int) else 7) = if 8 + b.length + (cutI r j).2 = 8 + b.length + j then 0 else 7
      by_cases h : (cutI r j).2 = j
      · rw [if_pos h, if_pos (by omega)]
      · rw [if_neg h, if_neg (by omega)]
/-- ahead of the i-th -/
def CutAt (own : List (List UInt8)) (k i at_ : Nat) : Prop := i ≤ own.length ∧ at_ ≤ k ∧ (cutI own k).1 = i + (cutI (own.drop i) (k - at_)).1 ∧ (cutI own k).2 = at_ + (cutI (own.drop i) (k - at_)).2
theorem CutAt.start (own : List (List UInt8)) (k : Nat) : CutAt own k 0 0 := ⟨Nat.zero_le _, Nat.zero_le _, by simp, by simp⟩
theorem drop_cons {own : List (List UInt8)} {i : Nat} (h : i < own.length) : own.drop i = own.getD i [] :: own.drop (i + 1) := by
  rw [List.drop_eq_getElem_cons h, List.getD_eq_getElem?_getD, List.getElem?_eq_getElem h]
  rfl
theorem CutAt.more {own : List (List UInt8)} {k i at_ : Nat} (h : CutAt own k i at_) (hi : i < own.length) (hk : ¬ k < at_ + (8 + (own.getD i []).length)) : CutAt own k (i + 1) (at_ + (8 + (own.getD i []).length)) := by
  obtain ⟨h1, h2, h3, h4⟩ := h
  rw [drop_cons hi] at h3 h4
  have e : cutI (own.getD i [] :: own.drop (i + 1)) (k - at_) = ((cutI (own.drop (i + 1)) (k - (at_ + (8 + (own.getD i []).length)))).1 + 1, 8 + (own.getD i []).length + (cutI (own.drop (i + 1)) (k - (at_ + (8 + (own.getD i []).length)))).2) := by
    rw [cutI, if_neg (by omega), Nat.sub_sub]
  rw [e] at h3 h4
  simp only at h3 h4
  exact ⟨by omega, by omega, by omega, by omega⟩
theorem CutAt.stop {own : List (List UInt8)} {k i at_ : Nat} (h : CutAt own k i at_) (hi : i < own.length) (hk : k < at_ + (8 + (own.getD i []).length)) : cutI own k = (i, at_) := by
  obtain ⟨h1, h2, h3, h4⟩ := h
  rw [drop_cons hi, cutI, if_pos (by omega)] at h3 h4
  exact Prod.ext h3 h4
theorem CutAt.all {own : List (List UInt8)} {k i at_ : Nat} (h : CutAt own k i at_) (hi : i = own.length) : cutI own k = (i, at_) := by
  obtain ⟨h1, h2, h3, h4⟩ := h
  rw [hi, List.drop_length, cutI] at h3 h4
  exact Prod.ext (by rw [h3, hi]; rfl) h4
end Go.Proofs.Ythblbmbefhlbjaa
