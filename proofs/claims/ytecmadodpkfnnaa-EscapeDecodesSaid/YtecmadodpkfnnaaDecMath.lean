/- Layer 7: what escapes tell, as plain lists. -/
import Derived.Test.YtecmadodpkfnnaaEscMath
namespace Go.Proofs.Ytecmadodpkfnnaa
open Go.RowKit Go.MapKept

abbrev dig16 : List UInt8 := [48, 49, 50, 51, 52, 53, 54, 55, 56, 57, 65, 66, 67, 68, 69, 70]
theorem indexByte_lt (l : List UInt8) (c : UInt8) : Lib.indexByte l c < l.length := by
  induction l with
  | nil => simp [Lib.indexByte]
  | cons b l ih =>
    have hg := Lib.indexByte_ge l c
    unfold Lib.indexByte
    simp only [List.length_cons]
    split
    · omega
    split <;> omega
/-- a digit's value; -1: it is none -/
def hexV (c : UInt8) : Int := Lib.indexByte dig16 c
theorem hexV_bd (c : UInt8) : -1 ≤ hexV c ∧ hexV c ≤ 15 := by
  refine ⟨Lib.indexByte_ge _ _, ?_⟩
  have := indexByte_lt dig16 c
  simp only [List.length_cons, List.length_nil] at this
  unfold hexV
  omega
def hexB (a b : UInt8) : UInt8 := (hexV a * 16 + hexV b).toNat.toUInt8
def pairsD : List UInt8 → Option (List UInt8)
  | a :: b :: r => if hexV a < 0 ∨ hexV b < 0 then none else (pairsD r).map (hexB a b :: ·)
  | _ => some []
def signOf (s : Sgn) (x : UInt8) : Option UInt8 :=
  if x = 70 then some s.a else if x = 83 then some s.b else if x = 84 then some s.e else if x = 82 then some s.c else if x = 69 then some s.d else none
theorem aget_sgn (s : Sgn) (x : UInt8) : aget (sgnL s) x = (signOf s x).map u8 := by
  unfold signOf
  simp only [aget]
  split
  · rfl
  split
  · rfl
  split
  · rfl
  split
  · rfl
  split <;> rfl
/-- what an escape's inside tells -/
def insideD (s : Sgn) (t : List UInt8) : Option (List UInt8) :=
  if t.length = 1 then (signOf s (t.getD 0 0)).map fun c => [c]
  else if t.length < 3 ∨ t.length % 2 = 0 ∨ t.getD 0 0 ≠ 88 then none else pairsD (t.drop 1)
/-- what the escape at the front tells, and how many bytes it has -/
def firstD (s : Sgn) (l : List UInt8) : Option (List UInt8 × Nat) :=
  if Lib.indexByte (l.drop 1) (l.getD 0 0) < 0 then none
  else (insideD s ((l.drop 1).take (Lib.indexByte (l.drop 1) (l.getD 0 0)).toNat)).map fun t => (t, (Lib.indexByte (l.drop 1) (l.getD 0 0)).toNat + 2)
theorem firstD_len {s : Sgn} {l t : List UInt8} {n : Nat} (h : firstD s l = some (t, n)) : 2 ≤ n ∧ n ≤ l.length := by
  unfold firstD at h
  split at h
  · cases h
  · obtain ⟨t', _, h2⟩ := Option.map_eq_some_iff.1 h
    injection h2 with h3 h4
    have := indexByte_lt (l.drop 1) (l.getD 0 0)
    rw [List.length_drop] at this
    omega
/-- what a text tells from place p on; else the place of the first escape's sign that begins no escape -/
def decG (s : Sgn) : Nat → List UInt8 → Nat → Except Nat (List UInt8)
  | 0, _, _ => .ok []
  | _ + 1, [], _ => .ok []
  | f + 1, c :: r, p =>
    if c ≠ s.d then (decG s f r (p + 1)).map (c :: ·)
    else match firstD s (c :: r) with
      | none => .error p
      | some (t, n) => (decG s f ((c :: r).drop n) (p + n)).map (t ++ ·)
theorem decG_more (s : Sgn) : ∀ (f g : Nat) (l : List UInt8) (p : Nat), l.length ≤ f → l.length ≤ g → decG s f l p = decG s g l p
  | 0, 0, _, _, _, _ => rfl
  | 0, g + 1, [], _, _, _ => rfl
  | f + 1, 0, [], _, _, _ => rfl
  | f + 1, g + 1, [], _, _, _ => rfl
  | 0, _, _ :: _, _, h, _ => by simp at h
  | _ + 1, 0, _ :: _, _, _, h => by simp at h
  | f + 1, g + 1, c :: r, p, h1, h2 => by
    simp only [List.length_cons] at h1 h2
    unfold decG
    rw [decG_more s f g r (p + 1) (by omega) (by omega)]
    cases hf : firstD s (c :: r) with
    | none => rfl
    | some q =>
      obtain ⟨t, n⟩ := q
      have := firstD_len hf
      simp only
      rw [decG_more s f g ((c :: r).drop n) (p + n) (by rw [List.length_drop, List.length_cons]; omega) (by rw [List.length_drop, List.length_cons]; omega)]
def decD (s : Sgn) (l : List UInt8) : Except Nat (List UInt8) := decG s l.length l 0
def decFrom (s : Sgn) (l : List UInt8) (p : Nat) : Except Nat (List UInt8) := decG s (l.drop p).length (l.drop p) p
theorem decFrom_end (s : Sgn) (l : List UInt8) : decFrom s l l.length = .ok [] := by
  unfold decFrom
  rw [List.drop_length]
  rfl
theorem decFrom_byte (s : Sgn) (l : List UInt8) (p : Nat) (hp : p < l.length) (h : l.getD p 0 ≠ s.d) : decFrom s l p = (decFrom s l (p + 1)).map (l.getD p 0 :: ·) := by
  unfold decFrom
  have e : l.drop p = l.getD p 0 :: l.drop (p + 1) := by
    rw [List.drop_eq_getElem_cons hp, List.getD_eq_getElem?_getD, List.getElem?_eq_getElem hp]; rfl
  rw [e, List.length_cons, decG, if_pos h]
theorem decFrom_bad (s : Sgn) (l : List UInt8) (p : Nat) (hp : p < l.length) (h : l.getD p 0 = s.d) (hf : firstD s (l.drop p) = none) : decFrom s l p = .error p := by
  unfold decFrom
  have e : l.drop p = l.getD p 0 :: l.drop (p + 1) := by
    rw [List.drop_eq_getElem_cons hp, List.getD_eq_getElem?_getD, List.getElem?_eq_getElem hp]; rfl
  rw [e] at hf ⊢
  rw [List.length_cons, decG, if_neg (by simpa using h), hf]
theorem decFrom_esc (s : Sgn) (l : List UInt8) (p : Nat) (hp : p < l.length) (h : l.getD p 0 = s.d) {t : List UInt8} {n : Nat} (hf : firstD s (l.drop p) = some (t, n)) : decFrom s l p = (decFrom s l (p + n)).map (t ++ ·) := by
  unfold decFrom
  have e : l.drop p = l.getD p 0 :: l.drop (p + 1) := by
    rw [List.drop_eq_getElem_cons hp, List.getD_eq_getElem?_getD, List.getElem?_eq_getElem hp]; rfl
  have hn := firstD_len hf
  rw [List.length_drop] at hn
  rw [e] at hf
  rw [e, List.length_cons, decG, if_neg (by simpa using h), hf]
  simp only
  rw [← e, List.drop_drop]
  rw [decG_more s _ (l.drop (p + n)).length _ _ (by simp; omega) (Nat.le_refl _)]
end Go.Proofs.Ytecmadodpkfnnaa
