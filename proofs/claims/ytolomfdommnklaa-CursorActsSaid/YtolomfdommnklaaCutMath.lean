/- Texts cut at a byte and joined by it, as lists of bytes. -/
import Derived.Test.YtolomfdommnklaaRows
import Derived.Lib.SplitLaws
import Derived.Lib.Join
namespace Go.Proofs.Ytolomfdommnklaa
open Go.Lib

/-- the texts between the signs c -/
def cutAt (c : UInt8) : List UInt8 → List (List UInt8)
  | [] => [[]]
  | x :: r => if x = c then [] :: cutAt c r else match cutAt c r with
    | [] => [[x]]
    | h :: t => (x :: h) :: t

theorem cutAt_ne (c : UInt8) : ∀ l : List UInt8, cutAt c l ≠ []
  | [] => by simp [cutAt]
  | x :: r => by
    unfold cutAt
    split
    · simp
    · split <;> simp
theorem cutAt_eq (c : UInt8) (r : List UInt8) : cutAt c (c :: r) = [] :: cutAt c r := by
  rw [cutAt, if_pos rfl]
theorem cutAt_cons {c x : UInt8} (hx : x ≠ c) (r : List UInt8) : ∃ h t, cutAt c r = h :: t ∧ cutAt c (x :: r) = (x :: h) :: t := by
  cases h : cutAt c r with
  | nil => exact absurd h (cutAt_ne c r)
  | cons a t => exact ⟨a, t, rfl, by rw [cutAt, if_neg hx, h]⟩
theorem cutAt_clean (c : UInt8) (r : List UInt8) : ∀ a : List UInt8, c ∉ a → cutAt c (a ++ c :: r) = a :: cutAt c r
  | [], _ => cutAt_eq c r
  | x :: a, ha => by
    obtain ⟨h, t, h1, h2⟩ := cutAt_cons (c := c) (x := x) (fun e => ha (by rw [e]; exact List.mem_cons_self ..)) (a ++ c :: r)
    rw [cutAt_clean c r a (fun e => ha (List.mem_cons_of_mem _ e))] at h1
    injection h1 with e1 e2
    subst e1 e2
    exact h2
theorem cutAt_none (c : UInt8) : ∀ a : List UInt8, c ∉ a → cutAt c a = [a]
  | [], _ => rfl
  | x :: a, ha => by
    obtain ⟨h, t, h1, h2⟩ := cutAt_cons (c := c) (x := x) (fun e => ha (by rw [e]; exact List.mem_cons_self ..)) a
    rw [cutAt_none c a (fun e => ha (List.mem_cons_of_mem _ e))] at h1
    injection h1 with e1 e2
    subst e1 e2
    exact h2
theorem cutAt_length (c : UInt8) : ∀ l : List UInt8, (cutAt c l).length = l.count c + 1
  | [] => rfl
  | x :: r => by
    by_cases hx : x = c
    · subst hx
      rw [cutAt_eq, List.length_cons, cutAt_length x r, List.count_cons_self]
    · obtain ⟨h, t, h1, h2⟩ := cutAt_cons hx r
      have := cutAt_length c r
      rw [h1] at this
      rw [h2, List.count_cons_of_ne (by simpa using hx)]
      simpa using this
theorem cutAt_clean_all (c : UInt8) : ∀ (l : List UInt8) (x : List UInt8), x ∈ cutAt c l → c ∉ x
  | [], x, hx => by simp [cutAt] at hx; simp [hx]
  | y :: r, x, hx => by
    by_cases hy : y = c
    · subst hy
      rw [cutAt_eq] at hx
      rcases List.mem_cons.1 hx with rfl | hx
      · simp
      · exact cutAt_clean_all y r x hx
    · obtain ⟨h, t, h1, h2⟩ := cutAt_cons hy r
      rw [h2] at hx
      rcases List.mem_cons.1 hx with rfl | hx
      · intro hc
        rcases List.mem_cons.1 hc with e | hc
        · exact hy e.symm
        · exact cutAt_clean_all c r h (by rw [h1]; exact List.mem_cons_self ..) hc
      · exact cutAt_clean_all c r x (by rw [h1]; exact List.mem_cons_of_mem _ hx)
theorem join_two (c : UInt8) (x y : List UInt8) (r : List (List UInt8)) : join (x :: y :: r) [c] = x ++ c :: join (y :: r) [c] := by
  rw [join_cons, join_cons]
  simp [joinTail]
theorem cutAt_join (c : UInt8) : ∀ l : List UInt8, join (cutAt c l) [c] = l
  | [] => by simp [cutAt, join_one]
  | x :: r => by
    have ih := cutAt_join c r
    by_cases hx : x = c
    · subst hx
      rw [cutAt_eq]
      cases h : cutAt x r with
      | nil => exact absurd h (cutAt_ne x r)
      | cons a t => rw [join_two, ← h, ih]; rfl
    · obtain ⟨h, t, h1, h2⟩ := cutAt_cons hx r
      rw [h1] at ih
      rw [h2]
      rw [join_cons] at ih ⊢
      rw [List.cons_append, ih]
theorem cutAt_of_join (c : UInt8) : ∀ (x : List UInt8) (r : List (List UInt8)), (∀ y ∈ x :: r, c ∉ y) → cutAt c (join (x :: r) [c]) = x :: r
  | x, [], h => by rw [join_one, cutAt_none c x (h x (List.mem_cons_self ..))]
  | x, y :: r, h => by
    rw [join_two, cutAt_clean c _ x (h x (List.mem_cons_self ..)), cutAt_of_join c y r (fun z hz => h z (List.mem_cons_of_mem _ hz))]
theorem cutAt_snoc_eq (c : UInt8) : ∀ l : List UInt8, cutAt c (l ++ [c]) = cutAt c l ++ [[]]
  | [] => by simp [cutAt]
  | x :: r => by
    have ih := cutAt_snoc_eq c r
    by_cases hx : x = c
    · subst hx
      rw [List.cons_append, cutAt_eq, cutAt_eq, ih]; rfl
    · obtain ⟨h, t, h1, h2⟩ := cutAt_cons hx r
      obtain ⟨h', t', h3, h4⟩ := cutAt_cons hx (r ++ [c])
      rw [ih, h1] at h3
      rw [List.cons_append, h4, h2]
      injection h3 with e1 e2
      rw [← e1, ← e2]; rfl
/-- the last one, with x behind -/
def lastMore (T : List (List UInt8)) (x : UInt8) : List (List UInt8) := T.set (T.length - 1) (T.getD (T.length - 1) [] ++ [x])
theorem cutAt_snoc_ne (c x : UInt8) (hx : x ≠ c) : ∀ l : List UInt8, cutAt c (l ++ [x]) = lastMore (cutAt c l) x
  | [] => by simp [cutAt, hx, lastMore]
  | y :: r => by
    have ih := cutAt_snoc_ne c x hx r
    by_cases hy : y = c
    · subst hy
      rw [List.cons_append, cutAt_eq, cutAt_eq, ih]
      cases h : cutAt y r with
      | nil => exact absurd h (cutAt_ne y r)
      | cons a t => simp [lastMore]
    · obtain ⟨h, t, h1, h2⟩ := cutAt_cons hy r
      obtain ⟨h', t', h3, h4⟩ := cutAt_cons hy (r ++ [x])
      rw [ih, h1] at h3
      rw [List.cons_append, h4, h2]
      cases t with
      | nil =>
        simp [lastMore] at h3
        obtain ⟨rfl, rfl⟩ := h3
        simp [lastMore]
      | cons a t =>
        simp [lastMore] at h3
        obtain ⟨rfl, rfl⟩ := h3
        simp [lastMore]
theorem index_clean (c : UInt8) (r : List UInt8) : ∀ a : List UInt8, c ∉ a → index (a ++ c :: r) [c] = ((a.length : Nat) : Int)
  | [], _ => by rw [List.nil_append, index]; simp [List.isPrefixOf]
  | x :: a, ha => by
    have hx : ¬ c = x := fun e => ha (by rw [e]; exact List.mem_cons_self ..)
    have ih := index_clean c r a (fun e => ha (List.mem_cons_of_mem _ e))
    have hp : ([c] : List UInt8).isPrefixOf (x :: (a ++ c :: r)) = false := by simp [List.isPrefixOf, hx]
    rw [List.cons_append, index, hp, ih]
    have : ¬ ((((a.length : Nat) : Int) == -1) = true) := fun e => by have := beq_iff_eq.1 e; omega
    simp [this]
theorem splitK_cut (c : UInt8) : ∀ (k : Nat) (l : List UInt8), l.count c = k → splitK [c] 0 k l = cutAt c l
  | 0, l, h => by rw [cutAt_none c l (List.count_eq_zero.1 h)]; rfl
  | k + 1, l, h => by
    have hm : c ∈ l := List.count_pos_iff.1 (by omega)
    obtain ⟨a, r, rfl, ha⟩ := List.eq_append_cons_of_mem hm
    have hi := index_clean c r a ha
    have h0 : a.count c = 0 := List.count_eq_zero.2 ha
    rw [List.count_append, h0, List.count_cons_self] at h
    unfold splitK
    rw [hi, if_neg (fun e => by have := beq_iff_eq.1 e; omega), cutAt_clean c r a ha]
    simp only [Int.toNat_natCast, Nat.add_zero, List.take_left, List.length_cons, List.length_nil]
    rw [show a.length + (0 + 1) = (a ++ [c]).length by simp, show a ++ c :: r = (a ++ [c]) ++ r by simp, List.drop_left, splitK_cut c k r (by omega)]
theorem cutAt_mem_le (c : UInt8) : ∀ (l x : List UInt8), x ∈ cutAt c l → x.length ≤ l.length
  | [], x, hx => by simp [cutAt] at hx; simp [hx]
  | y :: r, x, hx => by
    by_cases hy : y = c
    · subst hy
      rw [cutAt_eq] at hx
      rcases List.mem_cons.1 hx with rfl | hx
      · simp
      · have := cutAt_mem_le y r x hx
        simp only [List.length_cons]; omega
    · obtain ⟨h, t, h1, h2⟩ := cutAt_cons hy r
      rw [h2] at hx
      rcases List.mem_cons.1 hx with rfl | hx
      · have := cutAt_mem_le c r h (by rw [h1]; exact List.mem_cons_self ..)
        simp only [List.length_cons]; omega
      · have := cutAt_mem_le c r x (by rw [h1]; exact List.mem_cons_of_mem _ hx)
        simp only [List.length_cons]; omega
theorem cutAt_part_le (c : UInt8) (l : List UInt8) (k : Nat) (hk : l.length ≤ k) (j : Nat) : ((cutAt c l).getD j []).length ≤ k := by
  rw [List.getD_eq_getElem?_getD]
  cases h : (cutAt c l)[j]? with
  | none => simp
  | some x => exact Nat.le_trans (cutAt_mem_le c l x (List.mem_of_getElem? h)) hk
theorem join_length_cut (c : UInt8) (x : List UInt8) (r : List (List UInt8)) : (join (x :: r) [c]).length = r.length + lens (x :: r) := by
  rw [join_length]; simp
end Go.Proofs.Ytolomfdommnklaa
