/- Layer 13: all records that bytes begin with, as plain lists. -/
import Derived.Test.YthblbmbefhlbjaaEntryTurnsMath
namespace Go.Proofs.Ythblbmbefhlbjaa
open Go.RowKit

theorem getErr_len {l : List UInt8} (h : getErr l = 0) : 9 ≤ getLen l ∧ getLen l ≤ l.length ∧ getLen l = 8 + (getGet l).length ∧ okLen (getGet l).length = true := by
  unfold getLen getGet
  rw [if_pos h, if_pos h]
  unfold getErr at h
  by_cases h8 : l.length < 8
  · rw [if_pos h8] at h; omega
  rw [if_neg h8] at h
  by_cases ho : okLen (beNum (l.take 4)) = false
  · rw [if_pos ho] at h; omega
  rw [if_neg ho] at h
  have ho : okLen (beNum (l.take 4)) = true := by
    cases hh : okLen (beNum (l.take 4)) with
    | true => rfl
    | false => exact absurd hh ho
  have hx := okLen_yes ho
  by_cases hk : l.length - 8 < beNum (l.take 4)
  · rw [if_pos hk] at h; omega
  have e : ((l.drop 8).take (beNum (l.take 4))).length = beNum (l.take 4) := by rw [List.length_take, List.length_drop]; omega
  rw [e]
  exact ⟨by omega, by omega, rfl, ho⟩

/-- what l begins with: the records, how many bytes they have, why there is no further one -/
def scanF : Nat → List UInt8 → List (List UInt8) × Nat × Int
  | 0, _ => ([], 0, 0)
  | f + 1, l => if l.length = 0 then ([], 0, 0) else if getErr l = 0 then (getGet l :: (scanF f (l.drop (getLen l))).1, getLen l + (scanF f (l.drop (getLen l))).2.1, (scanF f (l.drop (getLen l))).2.2) else ([], 0, getErr l)
theorem scanF_more : ∀ (f g : Nat) (l : List UInt8), l.length ≤ f → l.length ≤ g → scanF f l = scanF g l
  | 0, 0, _, _, _ => rfl
  | 0, g + 1, l, h, _ => by
    have h0 : l.length = 0 := by omega
    simp [scanF, h0]
  | f + 1, 0, l, _, h => by
    have h0 : l.length = 0 := by omega
    simp [scanF, h0]
  | f + 1, g + 1, l, h1, h2 => by
    unfold scanF
    by_cases h0 : l.length = 0
    · rw [if_pos h0, if_pos h0]
    rw [if_neg h0, if_neg h0]
    by_cases he : getErr l = 0
    · have hl := getErr_len he
      rw [if_pos he, if_pos he, scanF_more f g (l.drop (getLen l)) (by rw [List.length_drop]; omega) (by rw [List.length_drop]; omega)]
    · rw [if_neg he, if_neg he]
def scan (l : List UInt8) : List (List UInt8) × Nat × Int := scanF l.length l
theorem scan_nil : scan [] = ([], 0, 0) := rfl
theorem scan_err {l : List UInt8} (h0 : 0 < l.length) (h : getErr l ≠ 0) : scan l = ([], 0, getErr l) := by
  unfold scan
  obtain ⟨n, hn⟩ : ∃ n, l.length = n + 1 := ⟨l.length - 1, by omega⟩
  rw [hn]
  unfold scanF
  rw [if_neg (by omega), if_neg h]
theorem scan_ok {l : List UInt8} (h : getErr l = 0) : scan l = (getGet l :: (scan (l.drop (getLen l))).1, getLen l + (scan (l.drop (getLen l))).2.1, (scan (l.drop (getLen l))).2.2) := by
  have hl := getErr_len h
  unfold scan
  obtain ⟨n, hn⟩ : ∃ n, l.length = n + 1 := ⟨l.length - 1, by omega⟩
  have e := scanF_more n (l.drop (getLen l)).length (l.drop (getLen l)) (by rw [List.length_drop]; omega) (Nat.le_refl _)
  rw [hn]
  conv => lhs; unfold scanF
  rw [if_neg (by omega), if_pos h, e]
theorem scanF_len : ∀ (f : Nat) (l : List UInt8), (scanF f l).2.1 ≤ l.length
  | 0, l => Nat.zero_le _
  | f + 1, l => by
    unfold scanF
    by_cases h0 : l.length = 0
    · rw [if_pos h0]; exact Nat.zero_le _
    rw [if_neg h0]
    by_cases he : getErr l = 0
    · have hl := getErr_len he
      have ih := scanF_len f (l.drop (getLen l))
      rw [List.length_drop] at ih
      rw [if_pos he]
      show getLen l + _ ≤ _
      omega
    · rw [if_neg he]; exact Nat.zero_le _
theorem scan_len (l : List UInt8) : (scan l).2.1 ≤ l.length := scanF_len _ _
/-- as far as place p: acc was found there -/
def ScanAt (l : List UInt8) (p : Nat) (acc : List (List UInt8)) : Prop :=
  p ≤ l.length ∧ 9 * acc.length ≤ p ∧ (scan l).1 = acc ++ (scan (l.drop p)).1 ∧ (scan l).2.1 = p + (scan (l.drop p)).2.1 ∧ (scan l).2.2 = (scan (l.drop p)).2.2 ∧ (∀ x ∈ acc, okLen x.length = true)
theorem ScanAt.start (l : List UInt8) : ScanAt l 0 [] := ⟨Nat.zero_le _, Nat.le_refl _, by simp, by simp, by simp, by simp⟩
theorem ScanAt.more {l : List UInt8} {p : Nat} {acc : List (List UInt8)} (h : ScanAt l p acc) (he : getErr (l.drop p) = 0) : ScanAt l (p + getLen (l.drop p)) (acc ++ [getGet (l.drop p)]) := by
  obtain ⟨h1, h2, h3, h4, h5, h6⟩ := h
  have hl := getErr_len he
  have hs := scan_ok he
  rw [List.length_drop] at hl
  rw [List.drop_drop] at hs
  refine ⟨by omega, by rw [List.length_append, List.length_singleton]; omega, ?_, ?_, ?_, fun x hx => ?_⟩
  · rw [h3, hs]; simp
  · rw [h4, hs]; simp; omega
  · rw [h5, hs]
  · rcases List.mem_append.1 hx with hx | hx
    · exact h6 x hx
    · simp at hx; rw [hx]; exact hl.2.2.2
theorem ScanAt.stop {l : List UInt8} {p : Nat} {acc : List (List UInt8)} (h : ScanAt l p acc) (hp : p < l.length) (he : getErr (l.drop p) ≠ 0) : scan l = (acc, p, getErr (l.drop p)) := by
  obtain ⟨h1, h2, h3, h4, h5, _⟩ := h
  have hs := scan_err (l := l.drop p) (by rw [List.length_drop]; omega) he
  rw [hs] at h3 h4 h5
  refine Prod.ext (by simpa using h3) (Prod.ext (by simpa using h4) h5)
theorem ScanAt.all {l : List UInt8} {p : Nat} {acc : List (List UInt8)} (h : ScanAt l p acc) (hp : p = l.length) : scan l = (acc, p, 0) := by
  obtain ⟨h1, h2, h3, h4, h5, _⟩ := h
  rw [hp, List.drop_length, scan_nil] at h3 h4 h5
  exact Prod.ext (by simpa using h3) (Prod.ext (by simpa [hp] using h4) h5)
end Go.Proofs.Ythblbmbefhlbjaa
