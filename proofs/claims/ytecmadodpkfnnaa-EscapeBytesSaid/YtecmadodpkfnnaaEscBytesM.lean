/- Layer 7: bytes as pairs of digits, without the walk. -/
import Derived.Test.YtecmadodpkfnnaaEscMath3
namespace Go.Proofs.Ytecmadodpkfnnaa
open Go.RowKit Go.MapKept

def pairU (c : UInt8) : List UInt8 := [hexU (c.toNat / 16), hexU (c.toNat % 16)]
def hexAll (l : List UInt8) : List UInt8 := l.flatMap pairU
def hexEach (s : Sgn) (l : List UInt8) : List UInt8 := l.flatMap (hexStr s)
theorem hexAll_snoc (l : List UInt8) (c : UInt8) : hexAll (l ++ [c]) = hexAll l ++ pairU c := by simp [hexAll]
theorem hexEach_snoc (s : Sgn) (l : List UInt8) (c : UInt8) : hexEach s (l ++ [c]) = hexEach s l ++ hexStr s c := by simp [hexEach]
theorem hexAll_len (l : List UInt8) : (hexAll l).length = 2 * l.length := by
  induction l with
  | nil => rfl
  | cons c r ih =>
    have : hexAll (c :: r) = pairU c ++ hexAll r := by simp [hexAll]
    rw [this, List.length_append, ih, List.length_cons]
    simp only [pairU, List.length_cons, List.length_nil]
    omega
theorem hexEach_len (s : Sgn) (l : List UInt8) : (hexEach s l).length = 5 * l.length := by
  induction l with
  | nil => rfl
  | cons c r ih =>
    have : hexEach s (c :: r) = hexStr s c ++ hexEach s r := by simp [hexEach]
    rw [this, List.length_append, ih, List.length_cons]
    simp only [hexStr, List.length_cons, List.length_nil]
    omega
theorem pair_fin : ∀ n : Fin 256, 0 ≤ hexV (hexU (n.val / 16)) ∧ 0 ≤ hexV (hexU (n.val % 16)) ∧ hexB (hexU (n.val / 16)) (hexU (n.val % 16)) = n.val.toUInt8 ∧ hexU (n.val / 16) ≠ 92 ∧ hexU (n.val % 16) ≠ 92 := by decide +kernel
theorem pair_of (c : UInt8) : 0 ≤ hexV (hexU (c.toNat / 16)) ∧ 0 ≤ hexV (hexU (c.toNat % 16)) ∧ hexB (hexU (c.toNat / 16)) (hexU (c.toNat % 16)) = c ∧ hexU (c.toNat / 16) ≠ 92 ∧ hexU (c.toNat % 16) ≠ 92 := by
  have h := pair_fin ⟨c.toNat, UInt8.toNat_lt c⟩
  simpa using h
theorem pairsD_all (l : List UInt8) : pairsD (hexAll l) = some l := by
  induction l with
  | nil => rfl
  | cons c r ih =>
    have : hexAll (c :: r) = hexU (c.toNat / 16) :: hexU (c.toNat % 16) :: hexAll r := by simp [hexAll, pairU]
    obtain ⟨h1, h2, h3, _, _⟩ := pair_of c
    rw [this, pairsD, if_neg (by omega), ih, h3]
    rfl
theorem hexAll_not (l : List UInt8) : (92 : UInt8) ∉ hexAll l := by
  induction l with
  | nil => simp [hexAll]
  | cons c r ih =>
    have : hexAll (c :: r) = hexU (c.toNat / 16) :: hexU (c.toNat % 16) :: hexAll r := by simp [hexAll, pairU]
    obtain ⟨_, _, _, h4, h5⟩ := pair_of c
    rw [this]
    simp [h4.symm, h5.symm, ih]
abbrev plT : Sgn := ⟨124, 94, 126, 92, 38⟩
theorem plT_good : plT.good = true := by decide
theorem inside_all (l : List UInt8) (h : 0 < l.length) : insideD plT (88 :: hexAll l) = some l := by
  have hl := hexAll_len l
  unfold insideD
  rw [if_neg (by rw [List.length_cons]; omega), if_neg (by
    simp only [List.length_cons, List.getD_cons_zero]
    rintro (h | h | h)
    · omega
    · omega
    · exact h rfl)]
  exact pairsD_all l
theorem inside_odd (l : List UInt8) : insideD plT (88 :: (hexAll l ++ [48])) = none := by
  have hl := hexAll_len l
  unfold insideD
  rw [if_neg (by rw [List.length_cons, List.length_append]; simp only [List.length_cons, List.length_nil]; omega), if_pos (by rw [List.length_cons, List.length_append]; simp only [List.length_cons, List.length_nil]; omega)]
theorem inside_none : insideD plT [88] = none := by decide +kernel
theorem dec_clean {l : List UInt8} (h : cleanD plT l = true) : decD plT l = .ok l := by
  have h1 := decD_enc plT_good l
  rwa [(encD_clean plT l).2 h] at h1
theorem idx_at (c : UInt8) (t : List UInt8) (h : c ∉ t) (k : List UInt8) : Lib.indexByte (t ++ c :: k) c = (t.length : Int) := by
  induction t with
  | nil => simp [Lib.indexByte]
  | cons b r ih =>
    simp only [List.mem_cons, not_or] at h
    rw [List.cons_append, Lib.indexByte, if_neg (by simpa using Ne.symm h.1), ih h.2, if_neg (by simp), List.length_cons]
    omega
theorem idx_none (c : UInt8) (t : List UInt8) (h : c ∉ t) : Lib.indexByte t c = -1 := by
  induction t with
  | nil => rfl
  | cons b r ih =>
    simp only [List.mem_cons, not_or] at h
    rw [Lib.indexByte, if_neg (by simpa using Ne.symm h.1), ih h.2]
    rfl
/-- the first escape begins none -/
theorem dec_bad {a : List UInt8} (h : cleanD plT a = true) (t : List UInt8) (hf : firstD plT (92 :: t) = none) : decD plT (a ++ 92 :: t) = .error a.length := by
  have ha := dec_clean h
  unfold decD at ha ⊢
  rw [decG_app plT a.length _ a (92 :: t) a 0 (Nat.le_refl _) (Nat.le_refl _) ha, List.length_cons, decG, if_neg (by decide), hf, Nat.zero_add]
  rfl
theorem first_closed (t k : List UInt8) (h : (92 : UInt8) ∉ t) (hi : insideD plT t = none) : firstD plT (92 :: (t ++ 92 :: k)) = none := by
  unfold firstD
  simp only [List.drop_succ_cons, List.drop_zero, List.getD_cons_zero]
  rw [idx_at 92 t h k, if_neg (by omega)]
  simp only [Int.toNat_natCast]
  rw [List.take_left' rfl, hi]
  rfl
theorem first_open (t : List UInt8) (h : (92 : UInt8) ∉ t) : firstD plT (92 :: t) = none := by
  unfold firstD
  simp only [List.drop_succ_cons, List.drop_zero, List.getD_cons_zero]
  rw [idx_none 92 t h, if_pos (by omega)]
/-- all digits in one escape -/
theorem bytes_all {a : List UInt8} (h : cleanD plT a = true) (l : List UInt8) (hl : 0 < l.length) : decD plT (a ++ [92, 88] ++ hexAll l ++ [92]) = .ok (a ++ l) := by
  have h1 : decD plT (92 :: (88 :: hexAll l) ++ [92]) = .ok l := decD_one (s := plT) (by
    have := hexAll_not l
    simp [this]) (inside_all l hl)
  have h2 := decD_join (dec_clean h) h1
  simpa [List.append_assoc] using h2
theorem bytes_each0 (l : List UInt8) : decD plT (hexEach plT l) = .ok l := by
  induction l with
  | nil => rfl
  | cons c r ih =>
    have e : hexEach plT (c :: r) = hexStr plT c ++ hexEach plT r := by simp [hexEach]
    have h1 : decD plT (hexStr plT c) = .ok [c] := by
      have := bytes_all (a := []) rfl [c] (by simp)
      simpa [hexAll, pairU, hexStr] using this
    rw [e, decD_join h1 ih]
    rfl
theorem bytes_each {a : List UInt8} (h : cleanD plT a = true) (l : List UInt8) : decD plT (a ++ hexEach plT l) = .ok (a ++ l) := decD_join (dec_clean h) (bytes_each0 l)
theorem bytes_odd {a : List UInt8} (h : cleanD plT a = true) (l : List UInt8) : decD plT (a ++ [92, 88] ++ hexAll l ++ [48, 92]) = .error a.length := by
  have h1 := first_closed (88 :: (hexAll l ++ [48])) [] (by
    have := hexAll_not l
    simp [this]) (inside_odd l)
  have h2 := dec_bad h _ h1
  simpa [List.append_assoc] using h2
theorem bytes_no {a : List UInt8} (h : cleanD plT a = true) : decD plT (a ++ [92, 88, 92]) = .error a.length := by
  have h1 := first_closed [88] [] (by decide) inside_none
  exact dec_bad h _ h1
theorem bytes_open {a : List UInt8} (h : cleanD plT a = true) (l : List UInt8) : decD plT (a ++ [92, 88] ++ hexAll l) = .error a.length := by
  have h1 := first_open (88 :: hexAll l) (by
    have := hexAll_not l
    simp [this])
  have h2 := dec_bad h _ h1
  simpa [List.append_assoc] using h2
end Go.Proofs.Ytecmadodpkfnnaa
