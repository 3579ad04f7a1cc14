/- Layer 9: a segment of any texts, whole or cut, is read as a head. -/
import Derived.Test.YtodgcmjdnfbegaaDoorMshBackM
namespace Go.Proofs.YtodgcmjdnfbegaaDoor
open Go.RowKit Lib

/-- a head's segment, of any texts -/
def rowSeg (d : Sgn) (T : List (List UInt8)) : List UInt8 := [77, 83, 72, d.a, d.b, d.c, d.d, d.e] ++ joinTail [d.a] T
theorem rowSeg_make (d : Sgn) (T : List (List UInt8)) : rowSeg d T = makeD mshB d.a ([d.a] :: [d.b, d.c, d.d, d.e] :: T) := by rw [makeD_head]; rfl
theorem rowSeg_not13 {d : Sgn} (hg : d.good = true) {T : List (List UInt8)} (hT : ∀ x ∈ T, (13 : UInt8) ∉ x) : (13 : UInt8) ∉ rowSeg d T := by
  have h13 := good_not13 hg
  unfold rowSeg
  intro hm
  rcases List.mem_append.1 hm with hm | hm
  · simp only [List.mem_cons, List.not_mem_nil, or_false] at hm
    rcases hm with e | e | e | hm
    · exact absurd e (by decide)
    · exact absurd e (by decide)
    · exact absurd e (by decide)
    · exact h13 (by simpa [Sgn.l] using hm)
  · unfold joinTail at hm
    obtain ⟨y, hy, hm⟩ := List.mem_flatten.1 hm
    obtain ⟨x, hx, rfl⟩ := List.mem_map.1 hy
    rcases List.mem_append.1 hm with hm | hm
    · exact h13 (by rw [List.mem_singleton.1 hm]; simp [Sgn.l])
    · exact hT x hx hm
theorem rowSeg_readD {d : Sgn} (hg : d.good = true) {T : List (List UInt8)} (hne : T ≠ []) (l : List UInt8) : readD (rowSeg d T ++ l) = (d, 0) := by
  obtain ⟨x, r, rfl⟩ := List.exists_cons_of_ne_nil hne
  have e : rowSeg d (x :: r) ++ l = 77 :: 83 :: 72 :: d.a :: d.b :: d.c :: d.d :: d.e :: d.a :: (x ++ joinTail [d.a] r ++ l) := by simp [rowSeg, joinTail]
  obtain ⟨R, hR⟩ : ∃ R, R = x ++ joinTail [d.a] r ++ l := ⟨_, rfl⟩
  rw [e, ← hR]
  have ho : Sgn.of (77 :: 83 :: 72 :: d.a :: d.b :: d.c :: d.d :: d.e :: d.a :: R) = d := rfl
  unfold readD
  rw [if_neg (by simp only [List.length_cons]; omega), if_neg, if_neg, ho]
  · rintro ⟨h1, _⟩
    exact h1 rfl
  · rintro (h1 | h1)
    · exact h1 rfl
    · rw [ho, hg] at h1; cases h1
theorem splitD_alone (m : List UInt8) (h : (13 : UInt8) ∉ m) (hm : m ≠ []) : splitD m = [m] := by
  unfold splitD
  rw [cutAt_none 13 m h, if_neg (by simpa using hm)]
theorem read_row {d : Sgn} (hg : d.good = true) {T : List (List UInt8)} (hne : T ≠ []) (hT : ∀ x ∈ T, d.a ∉ x ∧ (13 : UInt8) ∉ x) (l : List UInt8) (hl : l = [] ∨ ∃ r, l = 13 :: r) :
    readH (rowSeg d T ++ l) = (hdTo d (textsD ([d.a] :: [d.b, d.c, d.d, d.e] :: T)) 10, 0) := by
  have h13 := rowSeg_not13 hg (fun x hx => (hT x hx).2)
  obtain ⟨R, hR⟩ : ∃ R, splitD (rowSeg d T ++ l) = rowSeg d T :: R := by
    rcases hl with rfl | ⟨r, rfl⟩
    · rw [List.append_nil]; exact ⟨[], splitD_alone _ h13 (by simp [rowSeg])⟩
    · exact splitD_front _ r h13
  unfold readH
  rw [rowSeg_readD hg hne l, hR]
  simp only [List.getD_cons_zero]
  rw [rowSeg_make, fields_head d.a _ _ (good_signs hg).2 (fun y hy => (hT y hy).1)]
  simp only [List.getD_cons_succ, List.getD_cons_zero, if_true]
theorem textsD_any (a b : List UInt8) (T : List (List UInt8)) (i : Nat) : textsD (a :: b :: T) i = txt (T.getD i []) := by
  unfold textsD
  rw [show 2 + i = i + 1 + 1 by omega, List.getD_cons_succ, List.getD_cons_succ]
/-- rows behind signs, cut -/
theorem joinTail_cut (c : UInt8) : ∀ (T : List (List UInt8)) (k : Nat), 1 ≤ k → k ≤ (joinTail [c] T).length → ∃ i x, (joinTail [c] T).take k = joinTail [c] (T.take i ++ [x]) ∧ i < T.length ∧ x <+: T.getD i []
  | [], k, h1, h2 => by simp [joinTail] at h2; omega
  | y :: T, k, h1, h2 => by
    have e : joinTail [c] (y :: T) = c :: (y ++ joinTail [c] T) := by simp [joinTail]
    rw [e] at h2 ⊢
    simp only [List.length_cons, List.length_append] at h2
    obtain ⟨k, rfl⟩ : ∃ m, k = m + 1 := ⟨k - 1, by omega⟩
    rcases Nat.lt_or_ge y.length k with hk | hk
    · obtain ⟨i, x, h3, h4, h5⟩ := joinTail_cut c T (k - y.length) (by omega) (by omega)
      refine ⟨i + 1, x, ?_, by simp; omega, by simpa using h5⟩
      rw [List.take_succ_cons, List.take_append, List.take_of_length_le (by omega), h3]
      simp [joinTail]
    · refine ⟨0, y.take k, ?_, by simp, by simpa using List.take_prefix k y⟩
      rw [List.take_succ_cons, List.take_append, show k - y.length = 0 by omega]
      simp [joinTail]
end Go.Proofs.YtodgcmjdnfbegaaDoor
