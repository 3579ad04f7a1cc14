/- Layer 7: escapes, as plain lists. -/
import Derived.Test.YtecmadodpkfnnaaDelimMath
import Derived.Test.YtecmadodpkfnnaaMaps3
namespace Go.Proofs.Ytecmadodpkfnnaa
open Go.RowKit Go.MapKept

def letterOf (s : Sgn) (c : UInt8) : Option UInt8 :=
  if c = s.a then some 70 else if c = s.b then some 83 else if c = s.e then some 84 else if c = s.c then some 82 else if c = s.d then some 69 else none
/-- a sign's escape -/
def escStr (s : Sgn) (x : UInt8) : List UInt8 := [s.d, x, s.d]
def hexU (n : Nat) : UInt8 := ([48, 49, 50, 51, 52, 53, 54, 55, 56, 57, 65, 66, 67, 68, 69, 70] : List UInt8).getD n 0
def hexStr (s : Sgn) (c : UInt8) : List UInt8 := [s.d, 88, hexU (c.toNat / 16), hexU (c.toNat % 16), s.d]
/-- what Encode writes for a byte; none: the byte itself -/
def escGet (s : Sgn) (c : UInt8) : Option (List UInt8) :=
  if c = 11 ∨ c = 13 ∨ c = 28 then some (hexStr s c) else (letterOf s c).map (escStr s)
def escOf (s : Sgn) (c : UInt8) : List UInt8 := (escGet s c).getD [c]
def encD (s : Sgn) (l : List UInt8) : List UInt8 := l.flatMap (escOf s)
abbrev sgnL (s : Sgn) : List (UInt8 × Value) := [(70, u8 s.a), (83, u8 s.b), (84, u8 s.e), (82, u8 s.c), (69, u8 s.d)]
theorem encD_snoc (s : Sgn) (l : List UInt8) (c : UInt8) : encD s (l ++ [c]) = encD s l ++ escOf s c := by simp [encD]
theorem encD_append (s : Sgn) (l k : List UInt8) : encD s (l ++ k) = encD s l ++ encD s k := by simp [encD]
theorem escOf_len (s : Sgn) (c : UInt8) : 1 ≤ (escOf s c).length ∧ (escOf s c).length ≤ 5 := by
  unfold escOf escGet
  by_cases h : c = 11 ∨ c = 13 ∨ c = 28
  · rw [if_pos h]; simp [hexStr]
  · rw [if_neg h]
    cases letterOf s c <;> simp [escStr]
theorem encD_len (s : Sgn) (l : List UInt8) : l.length ≤ (encD s l).length ∧ (encD s l).length ≤ 5 * l.length := by
  induction l with
  | nil => simp [encD]
  | cons c r ih =>
    have h := escOf_len s c
    simp only [encD, List.flatMap_cons, List.length_append, List.length_cons] at ih ⊢
    omega
theorem aget_aset {κ : Type} [DecidableEq κ] (L : List (κ × Value)) (x : κ) (v : Value) (y : κ) : aget (aset L x v) y = if y = x then some v else aget L y := by
  induction L with
  | nil =>
    by_cases h : y = x
    · simp [aset, aget, h]
    · simp [aset, aget, h]
  | cons p r ih =>
    obtain ⟨a, u⟩ := p
    by_cases h : x = a
    · subst h
      by_cases hy : y = x
      · simp [aset, aget, hy]
      · simp [aset, aget, hy]
    · by_cases hy : y = a
      · subst hy
        have : ¬ y = x := fun e => h e.symm
        simp [aset, aget, h, this]
      · simp [aset, aget, h, hy, ih]
def sgB (s : Sgn) : List (UInt8 × UInt8) := [(70, s.a), (83, s.b), (84, s.e), (82, s.c), (69, s.d)]
abbrev toV (p : UInt8 × UInt8) : UInt8 × Value := (p.1, u8 p.2)
theorem sgnL_eq (s : Sgn) : sgnL s = (sgB s).map toV := rfl
theorem good_parts {s : Sgn} (h : s.good = true) : s.a ≠ s.b ∧ s.a ≠ s.c ∧ s.a ≠ s.d ∧ s.a ≠ s.e ∧ s.b ≠ s.c ∧ s.b ≠ s.d ∧ s.b ≠ s.e ∧ s.c ≠ s.d ∧ s.c ≠ s.e ∧ s.d ≠ s.e := ((Sgn.good_iff s).1 h).2
theorem letter_of {s : Sgn} (h : s.good = true) {k x : UInt8} (hm : (k, x) ∈ sgB s) : letterOf s x = some k := by
  obtain ⟨n1, n2, n3, n4, n5, n6, n7, n8, n9, n10⟩ := good_parts h
  simp only [sgB, List.mem_cons, Prod.mk.injEq, List.not_mem_nil, or_false] at hm
  unfold letterOf
  rcases hm with ⟨rfl, rfl⟩ | ⟨rfl, rfl⟩ | ⟨rfl, rfl⟩ | ⟨rfl, rfl⟩ | ⟨rfl, rfl⟩
  · simp
  · simp [n1.symm]
  · simp [n4.symm, n7.symm]
  · simp [n2.symm, n5.symm, n9]
  · simp [n3.symm, n6.symm, n8.symm, n10]
theorem letter_none {s : Sgn} {c : UInt8} (h : c ∉ (sgB s).map (·.2)) : letterOf s c = none := by
  simp [sgB] at h
  unfold letterOf
  simp [h]
theorem letter_mem {s : Sgn} {c k : UInt8} (h : letterOf s c = some k) : (k, c) ∈ sgB s := by
  unfold letterOf at h
  simp only [sgB, List.mem_cons, Prod.mk.injEq, List.not_mem_nil, or_false]
  split at h
  · left; injection h with h; exact ⟨h.symm, by assumption⟩
  split at h
  · right; left; injection h with h; exact ⟨h.symm, by assumption⟩
  split at h
  · right; right; left; injection h with h; exact ⟨h.symm, by assumption⟩
  split at h
  · right; right; right; left; injection h with h; exact ⟨h.symm, by assumption⟩
  split at h
  · right; right; right; right; injection h with h; exact ⟨h.symm, by assumption⟩
  · cases h
abbrev strV (l : List UInt8) : Value := .string (txt l)
/-- the signs' escapes, but for those that are still to come -/
def EscInv (s : Sgn) (lb : List (UInt8 × UInt8)) (E : List (UInt8 × Value)) : Prop :=
  (∀ p ∈ lb, p ∈ sgB s) ∧ (lb.map (·.2)).Nodup ∧ ∀ c, aget E c = if c ∈ lb.map (·.2) then none else (letterOf s c).map fun x => strV (escStr s x)
theorem EscInv.start {s : Sgn} (h : s.good = true) : EscInv s (sgB s) [] := by
  obtain ⟨n1, n2, n3, n4, n5, n6, n7, n8, n9, n10⟩ := good_parts h
  refine ⟨fun p hp => hp, by simp [sgB, n1, n2, n3, n4, n5, n6, n7, n8, n9.symm, n10.symm], fun c => ?_⟩
  by_cases hc : c ∈ (sgB s).map (·.2)
  · rw [if_pos hc]; rfl
  · rw [if_neg hc, letter_none hc]; rfl
theorem EscInv.step {s : Sgn} (hg : s.good = true) {bp bq : List (UInt8 × UInt8)} {k x : UInt8} {E : List (UInt8 × Value)} (h : EscInv s (bp ++ (k, x) :: bq) E) : EscInv s (bp ++ bq) (aset E x (strV (escStr s k))) := by
  obtain ⟨h1, h2, h3⟩ := h
  have hl := letter_of hg (h1 (k, x) (by simp))
  have hx : x ∉ (bp ++ bq).map (·.2) := by
    simp only [List.map_append, List.map_cons, List.nodup_append, List.nodup_cons] at h2
    simp only [List.map_append, List.mem_append, not_or]
    exact ⟨fun hm => (h2.2.2 x hm x (by simp)) rfl, h2.2.1.1⟩
  refine ⟨fun p hp => h1 p (by
    rcases List.mem_append.1 hp with hp | hp
    · exact List.mem_append_left _ hp
    · exact List.mem_append_right _ (List.mem_cons_of_mem _ hp)), ?_, fun c => ?_⟩
  · exact h2.sublist ((List.Sublist.append_left (List.sublist_cons_self _ _) _).map _)
  · rw [aget_aset]
    by_cases hc : c = x
    · subst hc
      rw [if_pos rfl, if_neg hx, hl]
      rfl
    · rw [if_neg hc, h3 c]
      have he : (c ∈ (bp ++ (k, x) :: bq).map (·.2)) ↔ c ∈ (bp ++ bq).map (·.2) := by
        simp only [List.map_append, List.map_cons, List.mem_append, List.mem_cons]
        constructor
        · rintro (h | h | h)
          · exact .inl h
          · exact absurd h hc
          · exact .inr h
        · rintro (h | h)
          · exact .inl h
          · exact .inr (.inr h)
      by_cases hm : c ∈ (bp ++ bq).map (·.2)
      · rw [if_pos (he.2 hm), if_pos hm]
      · rw [if_neg (fun h => hm (he.1 h)), if_neg hm]
/-- the escapes of the first j of the three bytes, and of the signs -/
def EscFr (s : Sgn) (j : Nat) (E : List (UInt8 × Value)) : Prop :=
  ∀ c, aget E c = if c ∈ ([11, 13, 28] : List UInt8).take j then some (strV (hexStr s c)) else (letterOf s c).map fun x => strV (escStr s x)
theorem EscInv.fin {s : Sgn} {E : List (UInt8 × Value)} (h : EscInv s [] E) : EscFr s 0 E := fun c => by
  rw [h.2.2 c]; simp
theorem EscFr.step {s : Sgn} {j : Nat} {E : List (UInt8 × Value)} (h : EscFr s j E) (hj : j < 3) : EscFr s (j + 1) (aset E (([11, 13, 28] : List UInt8).getD j 0) (strV (hexStr s (([11, 13, 28] : List UInt8).getD j 0)))) := fun c => by
  rw [aget_aset, h c]
  have hjj : j = 0 ∨ j = 1 ∨ j = 2 := by omega
  rcases hjj with rfl | rfl | rfl
  · by_cases hc : c = 11 <;> simp [hc]
  · by_cases hc : c = 13 <;> by_cases hd : c = 11 <;> simp_all
  · by_cases hc : c = 28 <;> by_cases hd : c = 11 <;> by_cases he : c = 13 <;> simp_all
theorem EscFr.all {s : Sgn} {E : List (UInt8 × Value)} (h : EscFr s 3 E) (c : UInt8) : aget E c = (escGet s c).map strV := by
  rw [h c]
  unfold escGet
  by_cases hc : c = 11 ∨ c = 13 ∨ c = 28
  · rw [if_pos hc, if_pos (by simpa using hc)]; rfl
  · rw [if_neg hc, if_neg (by simpa using hc)]
    cases letterOf s c <;> rfl
end Go.Proofs.Ytecmadodpkfnnaa
