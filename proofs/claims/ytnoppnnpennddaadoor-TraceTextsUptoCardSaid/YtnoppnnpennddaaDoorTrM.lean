/- Layer 19: bytes' texts and numbers' texts, as plain lists. -/
import Derived.Test.YtnoppnnpennddaaDoorStrs
import Derived.Test.YtnoppnnpennddaaDoorCutMath
import Derived.Lib.IndexLaws
namespace Go.Proofs.YtnoppnnpennddaaDoor
open Go.RowKit

abbrev digL : List UInt8 := [48, 49, 50, 51, 52, 53, 54, 55, 56, 57, 97, 98, 99, 100, 101, 102]
theorem index_lt (l : List UInt8) (c : UInt8) : Lib.indexByte l c < l.length := by
  induction l with
  | nil => simp [Lib.indexByte]
  | cons b l ih =>
    have hg := Lib.indexByte_ge l c
    unfold Lib.indexByte
    simp only [List.length_cons]
    split
    · omega
    split <;> omega
/-- a digit's value; -1: it is none -/
def hexL (c : UInt8) : Int := Lib.indexByte digL c
theorem hexL_bd (c : UInt8) : -1 ≤ hexL c ∧ hexL c ≤ 15 := by
  refine ⟨Lib.indexByte_ge _ _, ?_⟩
  have := index_lt digL c
  simp only [List.length_cons, List.length_nil] at this
  unfold hexL
  omega
def hexLB (a b : UInt8) : UInt8 := (hexL a * 16 + hexL b).toNat.toUInt8
/-- what pairs of digits tell -/
def pairsL : List UInt8 → Option (List UInt8)
  | a :: b :: r => if hexL a < 0 ∨ hexL b < 0 then none else (pairsL r).map (hexLB a b :: ·)
  | _ => some []
/-- a byte's two digits -/
def hexT (c : UInt8) : List UInt8 := [digL.getD (c.toNat / 16) 0, digL.getD (c.toNat % 16) 0]
/-- the text of bytes -/
def hexD (l : List UInt8) : List UInt8 := if l = [] then [45] else l.flatMap hexT
/-- the bytes of a text -/
def bytesD (s : List UInt8) : Option (List UInt8) := if s = [45] then some [] else if s = [] ∨ s.length % 2 ≠ 0 then none else pairsL s

theorem hexT_back (c : UInt8) : hexL (digL.getD (c.toNat / 16) 0) = ((c.toNat / 16 : Nat) : Int) ∧ hexL (digL.getD (c.toNat % 16) 0) = ((c.toNat % 16 : Nat) : Int) := by
  have h : ∀ k : Fin 16, hexL (digL.getD k.val 0) = ((k.val : Nat) : Int) := by decide +kernel
  have hc := c.toNat_lt
  exact ⟨h ⟨c.toNat / 16, by omega⟩, h ⟨c.toNat % 16, by omega⟩⟩
theorem hexLB_back (c : UInt8) : hexLB (digL.getD (c.toNat / 16) 0) (digL.getD (c.toNat % 16) 0) = c := by
  obtain ⟨h1, h2⟩ := hexT_back c
  unfold hexLB
  rw [h1, h2]
  have e : (((c.toNat / 16 : Nat) : Int) * 16 + ((c.toNat % 16 : Nat) : Int)).toNat = c.toNat := by omega
  rw [e]
  simp
theorem pairsL_hexT (c : UInt8) (r : List UInt8) : pairsL (hexT c ++ r) = (pairsL r).map (c :: ·) := by
  obtain ⟨h1, h2⟩ := hexT_back c
  have hb := hexLB_back c
  unfold hexT
  simp only [List.cons_append, List.nil_append]
  rw [pairsL, if_neg (by rw [h1, h2]; omega), hb]
theorem pairsL_flat (l : List UInt8) : pairsL (l.flatMap hexT) = some l := by
  induction l with
  | nil => rfl
  | cons c l ih =>
    rw [List.flatMap_cons, pairsL_hexT, ih]
    rfl
theorem flat_len (l : List UInt8) : (l.flatMap hexT).length = 2 * l.length := by
  induction l with
  | nil => rfl
  | cons c l ih =>
    rw [List.flatMap_cons, List.length_append, ih]
    simp [hexT]
    omega
theorem hexD_len (l : List UInt8) : (hexD l).length ≤ 2 * l.length + 1 := by
  unfold hexD
  split
  · simp
  · rw [flat_len]
    omega
/-- what is told of bytes tells them -/
theorem bytes_hex (l : List UInt8) : bytesD (hexD l) = some l := by
  unfold hexD
  split
  · rename_i h
    subst h
    rfl
  · rename_i h
    have hl := flat_len l
    have h0 : 0 < l.length := List.length_pos_iff.2 h
    unfold bytesD
    rw [if_neg, if_neg, pairsL_flat]
    · rintro (e | e)
      · rw [e] at hl; simp at hl; omega
      · omega
    · intro e
      rw [e] at hl
      simp at hl
      omega
theorem hexL_digit (a : UInt8) (h : 0 ≤ hexL a) : digL.getD (hexL a).toNat 0 = a := by
  have key : ∀ k : Fin 256, 0 ≤ hexL (UInt8.ofNat k.val) → digL.getD (hexL (UInt8.ofNat k.val)).toNat 0 = UInt8.ofNat k.val := by decide +kernel
  have := key ⟨a.toNat, a.toNat_lt⟩
  simp only [UInt8.ofNat_toNat] at this
  exact this h
theorem hexT_of {a b : UInt8} (ha : 0 ≤ hexL a) (hb : 0 ≤ hexL b) : hexT (hexLB a b) = [a, b] := by
  have h1 := hexL_bd a
  have h2 := hexL_bd b
  have e : (hexLB a b).toNat = (hexL a).toNat * 16 + (hexL b).toNat := by
    unfold hexLB
    have e2 : (hexL a * 16 + hexL b).toNat = (hexL a).toNat * 16 + (hexL b).toNat := by omega
    rw [e2]
    have : (hexL a).toNat * 16 + (hexL b).toNat < 256 := by omega
    simp only [Nat.toUInt8]
    rw [UInt8.toNat_ofNat']
    exact Nat.mod_eq_of_lt this
  unfold hexT
  rw [e, show ((hexL a).toNat * 16 + (hexL b).toNat) / 16 = (hexL a).toNat from by omega, show ((hexL a).toNat * 16 + (hexL b).toNat) % 16 = (hexL b).toNat from by omega, hexL_digit a ha, hexL_digit b hb]
theorem pairsL_back : ∀ (n : Nat) (s l : List UInt8), s.length ≤ n → s.length % 2 = 0 → pairsL s = some l → l.flatMap hexT = s
  | _, [], l, _, _, h => by
    simp [pairsL] at h
    subst h
    rfl
  | _, [a], _, _, h2, _ => by simp at h2
  | 0, a :: b :: r, _, hn, _, _ => by simp at hn
  | n + 1, a :: b :: r, l, hn, h2, h => by
    rw [pairsL] at h
    split at h
    · cases h
    · rename_i hab
      cases hp : pairsL r with
      | none => rw [hp] at h; cases h
      | some t =>
        rw [hp] at h
        simp only [Option.map_some, Option.some.injEq] at h
        subst h
        have ih := pairsL_back n r t (by simp at hn; omega) (by simp at h2; omega) hp
        rw [List.flatMap_cons, ih, hexT_of (by omega) (by omega)]
        rfl
/-- a text that tells bytes is theirs -/
theorem hex_bytes {s l : List UInt8} (h : bytesD s = some l) : hexD l = s := by
  unfold bytesD at h
  split at h
  · rename_i e
    subst e
    simp only [Option.some.injEq] at h
    subst h
    rfl
  · split at h
    · cases h
    · rename_i h1 h2
      rw [not_or] at h2
      have hb := pairsL_back s.length s l (Nat.le_refl _) (by omega) h
      unfold hexD
      rw [if_neg, hb]
      intro e
      subst e
      exact h2.1 hb.symm
theorem bytes_len {s l : List UInt8} (h : bytesD s = some l) : 2 * l.length ≤ s.length := by
  have := hex_bytes h
  rw [← this]
  unfold hexD
  split
  · rename_i e; subst e; simp
  · rw [flat_len]; omega
theorem pairsL_two (l : List UInt8) (i : Nat) (h : i + 1 < l.length) : pairsL (l.drop i) = if hexL (l.getD i 0) < 0 ∨ hexL (l.getD (i + 1) 0) < 0 then none else (pairsL (l.drop (i + 2))).map (hexLB (l.getD i 0) (l.getD (i + 1) 0) :: ·) := by
  have e : l.drop i = l.getD i 0 :: l.getD (i + 1) 0 :: l.drop (i + 2) := by
    rw [List.drop_eq_getElem_cons (by omega), List.drop_eq_getElem_cons (by omega), List.getD_eq_getElem?_getD, List.getElem?_eq_getElem (by omega), List.getD_eq_getElem?_getD, List.getElem?_eq_getElem (by omega)]
    rfl
  rw [e, pairsL]
theorem orL16 : ∀ h l : Fin 16, bits BinOp.or IntKind.i64 (((h.val : Nat) : Int) * 16) ((l.val : Nat) : Int) = ((h.val * 16 + l.val : Nat) : Int) := by decide +kernel
end Go.Proofs.YtnoppnnpennddaaDoor
