/- Layer 9: a head that is written, with a 13 behind, is read as that head. -/
import Derived.Test.YtgffamdlnacamaaDoorMsh6
import Derived.Test.YtgffamdlnacamaaDoorSegMakesM
namespace Go.Proofs.YtgffamdlnacamaaDoor
open Go.RowKit Lib

theorem sign_not13 (x : UInt8) (h : isSign x.toNat = true) : x ≠ 13 := fun e => by
  subst e; exact absurd h (by decide)
theorem good_signs {s : Sgn} (h : s.good = true) : (∀ x ∈ s.l, isSign x.toNat = true) ∧ s.a ∉ [s.b, s.c, s.d, s.e] := by
  obtain ⟨a, b, c, d, e⟩ := s
  simp only [Sgn.good, goodTo, Sgn.l, Bool.and_eq_true, Bool.not_eq_true', List.take_zero, List.take_succ_cons] at h
  obtain ⟨⟨⟨⟨⟨⟨⟨⟨⟨⟨_, h1⟩, _⟩, h2⟩, q2⟩, h3⟩, q3⟩, h4⟩, q4⟩, h5⟩, q5⟩ := h
  simp only [List.getD_cons_zero, List.getD_cons_succ, List.contains_cons, List.contains_nil, Bool.or_false, Bool.or_eq_false_iff, beq_eq_false_iff_ne] at h1 h2 h3 h4 h5 q2 q3 q4 q5
  refine ⟨fun x hx => ?_, fun hm => ?_⟩
  · simp only [Sgn.l, List.mem_cons, List.not_mem_nil, or_false] at hx
    rcases hx with rfl | rfl | rfl | rfl | rfl <;> assumption
  · simp only [List.mem_cons, List.not_mem_nil, or_false] at hm
    rcases hm with e1 | e1 | e1 | e1
    · exact q2 e1.symm
    · exact q3.1 e1.symm
    · exact q4.1 e1.symm
    · exact q5.1 e1.symm
theorem good_not13 {s : Sgn} (h : s.good = true) : (13 : UInt8) ∉ s.l := fun hm => sign_not13 13 ((good_signs h).1 13 hm) rfl
theorem filledD_ge (l : List ByteArray) : ∀ k, 2 ≤ filledD l k
  | 0 => Nat.le_refl _
  | k + 1 => by
    have := filledD_ge l k
    unfold filledD
    split <;> omega
theorem filledD_rest (l : List ByteArray) : ∀ k i, filledD l k ≤ i + 2 → i < k → (l.getD i ⟨#[]⟩).toList.isEmpty = true
  | 0, i, _, h => absurd h (by omega)
  | k + 1, i, h1, h2 => by
    unfold filledD at h1
    split at h1
    · rename_i he
      rcases Nat.lt_or_ge i k with h | h
      · exact filledD_rest l k i h1 h
      · obtain rfl : i = k := by omega
        exact he
    · omega
theorem cutAt_front (c : UInt8) : ∀ (m l : List UInt8), c ∉ m → cutAt c (m ++ c :: l) = m :: cutAt c l
  | [], l, _ => by simp [cutAt]
  | x :: r, l, h => by
    simp only [List.mem_cons, not_or] at h
    rw [List.cons_append]
    conv => lhs; unfold cutAt
    rw [if_neg (fun e => h.1 e.symm), cutAt_front c r l h.2]
theorem splitD_front (m l : List UInt8) (h : (13 : UInt8) ∉ m) : ∃ R, splitD (m ++ 13 :: l) = m :: R := by
  unfold splitD
  rw [cutAt_front 13 m l h]
  split
  · obtain ⟨x, r, hx⟩ : ∃ x r, cutAt 13 l = x :: r := by
      cases h : cutAt 13 l with
      | nil => exact absurd h (cutAt_ne _ _)
      | cons a b => exact ⟨a, b, rfl⟩
    rw [hx]
    exact ⟨_, rfl⟩
  · exact ⟨_, rfl⟩
/-- the texts of a head that are written -/
def rowK (h : Hd) : List (List UInt8) := (h.l.map (·.data.toList)).take (filledD h.l 10 - 2)
theorem rowH_take_eq (h : Hd) : (rowH h).take (filledD h.l 10) = [h.d.a] :: [h.d.b, h.d.c, h.d.d, h.d.e] :: rowK h := by
  have h2 := filledD_ge h.l 10
  obtain ⟨k, hk⟩ : ∃ k, filledD h.l 10 = k + 2 := ⟨filledD h.l 10 - 2, by omega⟩
  unfold rowK rowH
  rw [hk]
  rfl
/-- a head's segment -/
def segH (h : Hd) : List UInt8 := makeD mshB h.d.a ((rowH h).take (filledD h.l 10))
theorem segH_eq (h : Hd) : segH h = [77, 83, 72, h.d.a, h.d.b, h.d.c, h.d.d, h.d.e] ++ joinTail [h.d.a] (rowK h) := by
  unfold segH
  rw [rowH_take_eq, makeD_head]
  rfl
theorem writeH_good {h : Hd} (hg : h.d.good = true) (hs : h.l.all (standD h.d.a) = true) : writeH h = (segH h, 0) := by
  unfold writeH
  rw [if_pos hg, if_pos hs]; rfl
theorem rowK_mem {h : Hd} (hs : h.l.all (standD h.d.a) = true) {x : List UInt8} (hx : x ∈ rowK h) : h.d.a ∉ x ∧ (13 : UInt8) ∉ x := by
  obtain ⟨b, hb, rfl⟩ := List.mem_map.1 (List.mem_of_mem_take hx)
  have := List.all_eq_true.1 hs b hb
  simp only [standD, Bool.and_eq_true, Bool.not_eq_true'] at this
  refine ⟨fun hm => ?_, fun hm => ?_⟩
  · rw [List.contains_iff_mem.2 hm] at this; exact absurd this.1 (by decide)
  · rw [List.contains_iff_mem.2 hm] at this; exact absurd this.2 (by decide)
theorem segH_not13 {h : Hd} (hg : h.d.good = true) (hs : h.l.all (standD h.d.a) = true) : (13 : UInt8) ∉ segH h := by
  have h13 := good_not13 hg
  rw [segH_eq]
  intro hm
  rcases List.mem_append.1 hm with hm | hm
  · simp only [List.mem_cons, List.not_mem_nil, or_false] at hm
    rcases hm with e | e | e | hm
    · exact absurd e (by decide)
    · exact absurd e (by decide)
    · exact absurd e (by decide)
    · exact h13 (by simpa [Sgn.l] using hm)
  · unfold joinTail at hm
    obtain ⟨y, hy, hm⟩ := List.mem_flatten.1 hm
    obtain ⟨x, hx, rfl⟩ := List.mem_map.1 hy
    rcases List.mem_append.1 hm with hm | hm
    · exact h13 (by rw [List.mem_singleton.1 hm]; simp [Sgn.l])
    · exact (rowK_mem hs hx).2 hm
theorem segH_fields {h : Hd} (hg : h.d.good = true) (hs : h.l.all (standD h.d.a) = true) : fieldsD (txt (segH h)) h.d.a = [h.d.a] :: [h.d.b, h.d.c, h.d.d, h.d.e] :: rowK h := by
  unfold segH
  rw [rowH_take_eq]
  exact fields_head h.d.a _ _ (good_signs hg).2 (fun y hy => (rowK_mem hs hy).1)
theorem getD_map_data (l : List ByteArray) (i : Nat) : (l.map (·.data.toList)).getD i [] = (l.getD i ⟨#[]⟩).data.toList := by
  simp only [List.getD_eq_getElem?_getD, List.getElem?_map]
  cases l[i]? <;> rfl
theorem txt_toList (x : ByteArray) : txt x.data.toList = x := rfl
theorem empty_of {x : ByteArray} (h : x.toList.isEmpty = true) : x = ⟨#[]⟩ := by
  rw [Go.ByteArray.toList_eq, List.isEmpty_iff] at h
  exact ByteArray.ext (Array.toList_inj.1 h)
theorem textsD_row (h : Hd) (a b : List UInt8) (i : Nat) (hi : i < 10) : textsD (a :: b :: rowK h) i = h.l.getD i ⟨#[]⟩ := by
  unfold textsD
  rw [show 2 + i = i + 1 + 1 by omega, List.getD_cons_succ, List.getD_cons_succ]
  unfold rowK
  have h2 := filledD_ge h.l 10
  rcases Nat.lt_or_ge i (filledD h.l 10 - 2) with hlt | hge
  · rw [List.getD_eq_getElem?_getD, List.getElem?_take, if_pos hlt, ← List.getD_eq_getElem?_getD, getD_map_data, txt_toList]
  · rw [List.getD_eq_getElem?_getD, List.getElem?_take, if_neg (by omega)]
    rw [empty_of (filledD_rest h.l 10 i (by omega) hi)]
    rfl
theorem hdTo_row (h : Hd) (a b : List UInt8) : hdTo h.d (textsD (a :: b :: rowK h)) 10 = h := by
  have k := textsD_row h a b
  unfold hdTo sel
  simp only [k 0 (by decide), k 1 (by decide), k 2 (by decide), k 3 (by decide), k 4 (by decide), k 5 (by decide), k 6 (by decide), k 7 (by decide), k 8 (by decide), k 9 (by decide)]
  obtain ⟨d, a0, a1, a2, a3, a4, a5, a6, a7, a8, a9⟩ := h
  rfl
theorem readD_seg {h : Hd} (hg : h.d.good = true) (l : List UInt8) : readD (segH h ++ 13 :: l) = (h.d, 0) := by
  have e : segH h ++ 13 :: l = 77 :: 83 :: 72 :: h.d.a :: h.d.b :: h.d.c :: h.d.d :: h.d.e :: (joinTail [h.d.a] (rowK h) ++ 13 :: l) := by rw [segH_eq]; rfl
  obtain ⟨R, hR⟩ : ∃ R, R = joinTail [h.d.a] (rowK h) ++ 13 :: l := ⟨_, rfl⟩
  have h8 : R.getD 0 0 = h.d.a ∨ R.getD 0 0 = 13 := by
    rw [hR]
    cases rowK h with
    | nil => exact .inr rfl
    | cons x r => exact .inl rfl
  have hl : 1 ≤ R.length := by rw [hR]; simp; omega
  rw [e, ← hR]
  have ho : Sgn.of (77 :: 83 :: 72 :: h.d.a :: h.d.b :: h.d.c :: h.d.d :: h.d.e :: R) = h.d := rfl
  unfold readD
  rw [if_neg (by simp only [List.length_cons]; omega), if_neg, if_neg, ho]
  · rintro ⟨h1, h2⟩
    rcases h8 with h8 | h8
    · exact h1 h8
    · exact h2 h8
  · rintro (h1 | h1)
    · exact h1 rfl
    · rw [ho, hg] at h1; cases h1
/-- P9.4 -/
theorem read_write {h : Hd} (hg : h.d.good = true) (hs : h.l.all (standD h.d.a) = true) (l : List UInt8) : readH (segH h ++ 13 :: l) = (h, 0) := by
  obtain ⟨R, hR⟩ := splitD_front (segH h) l (segH_not13 hg hs)
  unfold readH
  rw [readD_seg hg l, hR]
  simp only [List.getD_cons_zero]
  rw [segH_fields hg hs]
  simp only [List.getD_cons_succ, List.getD_cons_zero, if_true]
  rw [hdTo_row]
end Go.Proofs.YtgffamdlnacamaaDoor
