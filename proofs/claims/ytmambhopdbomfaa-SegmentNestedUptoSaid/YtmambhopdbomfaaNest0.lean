/- Layer 8: fields of repetitions of components, as lists of bytes. -/
import Derived.Test.YtmambhopdbomfaaSegMakesM
import Derived.Test.YtmambhopdbomfaaCleanOf
namespace Go.Proofs.Ytmambhopdbomfaa
open Go.RowKit Go.Lib

/-- how many bytes texts have, one more for each -/
def gT (T : List (List UInt8)) : Nat := lens T + T.length
def bulkR (R : List (List (List UInt8))) : Nat := (R.map gT).sum
theorem gT_snoc (T : List (List UInt8)) (x : List UInt8) : gT (T ++ [x]) = gT T + (1 + x.length) := by
  simp only [gT, lens, List.map_append, List.sum_append, List.length_append, List.map_cons, List.map_nil, List.sum_cons, List.sum_nil, List.length_cons, List.length_nil]
  omega
theorem gT_take (T : List (List UInt8)) (k : Nat) : gT (T.take k) ≤ gT T := by
  have h1 := lens_take_le T k
  have h2 : (T.take k).length ≤ T.length := by rw [List.length_take]; omega
  simp only [gT]; omega
theorem bulkR_snoc (R : List (List (List UInt8))) (T : List (List UInt8)) : bulkR (R ++ [T]) = bulkR R + gT T := by simp [bulkR]
theorem bulkR_append (R S : List (List (List UInt8))) : bulkR (R ++ S) = bulkR R + bulkR S := by simp [bulkR]
theorem bulkR_take (R : List (List (List UInt8))) (k : Nat) : bulkR (R.take k) ≤ bulkR R := by
  have := bulkR_append (R.take k) (R.drop k)
  rw [List.take_append_drop] at this
  omega
theorem bulkR_mem {R : List (List (List UInt8))} {T : List (List UInt8)} (h : T ∈ R) : gT T ≤ bulkR R := by
  induction R with
  | nil => cases h
  | cons a r ih =>
    have e : bulkR (a :: r) = gT a + bulkR r := by simp [bulkR]
    rw [e]
    rcases List.mem_cons.1 h with rfl | h
    · omega
    · have := ih h; omega
/-- is a text without both signs -/
def cleanX (x : List UInt8) : Bool := !x.contains 126 && !x.contains 94
def cleanP (T : List (List UInt8)) : List (List UInt8) := T.filter cleanX
/-- the repetitions of which something is left -/
def ownR (R : List (List (List UInt8))) : List (List (List UInt8)) := (R.map cleanP).filter fun T => !T.isEmpty
theorem cleanP_yes (T : List (List UInt8)) (k : Nat) (hk : k < T.length) (h : cleanX (T.getD k []) = true) : cleanP (T.take (k + 1)) = cleanP (T.take k) ++ [T.getD k []] := by
  unfold cleanP
  rw [take_getD T k hk, List.filter_append]
  rw [List.getD_eq_getElem?_getD] at h ⊢
  simp [h]
theorem cleanP_no (T : List (List UInt8)) (k : Nat) (hk : k < T.length) (h : cleanX (T.getD k []) = false) : cleanP (T.take (k + 1)) = cleanP (T.take k) := by
  unfold cleanP
  rw [take_getD T k hk, List.filter_append]
  rw [List.getD_eq_getElem?_getD] at h ⊢
  simp [h]
theorem cleanP_len (T : List (List UInt8)) (k : Nat) : (cleanP (T.take k)).length ≤ k := by
  have h1 := List.length_filter_le cleanX (T.take k)
  rw [List.length_take] at h1
  exact Nat.le_trans h1 (Nat.min_le_left _ _)
theorem cleanP_g (T : List (List UInt8)) : gT (cleanP T) ≤ gT T := by
  have hfl := lens_filter cleanX T
  have hfn := List.length_filter_le cleanX T
  unfold gT cleanP
  omega
theorem takeR (R : List (List (List UInt8))) (k : Nat) (hk : k < R.length) : R.take (k + 1) = R.take k ++ [R.getD k []] := by
  rw [List.take_succ_eq_append_getElem hk, List.getD_eq_getElem?_getD, List.getElem?_eq_getElem hk]; rfl
theorem ownR_snoc (R : List (List (List UInt8))) (T : List (List UInt8)) (h : cleanP T ≠ []) : ownR (R ++ [T]) = ownR R ++ [cleanP T] := by
  unfold ownR
  rw [List.map_append, List.filter_append]
  simp [h]
theorem ownR_none (R : List (List (List UInt8))) (T : List (List UInt8)) (h : cleanP T = []) : ownR (R ++ [T]) = ownR R := by
  unfold ownR
  rw [List.map_append, List.filter_append]
  simp [h]
theorem ownR_bulk : ∀ R : List (List (List UInt8)), bulkR (ownR R) ≤ bulkR R
  | [] => by simp [ownR, bulkR]
  | T :: r => by
    have ih := ownR_bulk r
    have e1 : bulkR (T :: r) = gT T + bulkR r := by simp [bulkR]
    have hg := cleanP_g T
    by_cases h : cleanP T = []
    · have e2 : ownR (T :: r) = ownR r := by unfold ownR; simp [h]
      rw [e1, e2]; omega
    · have e2 : ownR (T :: r) = cleanP T :: ownR r := by unfold ownR; simp [h]
      have e3 : bulkR (cleanP T :: ownR r) = gT (cleanP T) + bulkR (ownR r) := by simp [bulkR]
      rw [e1, e2, e3]; omega
theorem ownR_len (R : List (List (List UInt8))) (k : Nat) : (ownR (R.take k)).length ≤ k := by
  have h1 := List.length_filter_le (fun T : List (List UInt8) => !T.isEmpty) ((R.take k).map cleanP)
  rw [List.length_map, List.length_take] at h1
  exact Nat.le_trans h1 (Nat.min_le_left _ _)
/-- of repetitions: each holds something, of texts without the signs -/
def CleanR (R : List (List (List UInt8))) : Prop := ∀ T ∈ R, T ≠ [] ∧ ∀ x ∈ T, (126 : UInt8) ∉ x ∧ (94 : UInt8) ∉ x
theorem ownR_clean (R : List (List (List UInt8))) : CleanR (ownR R) := fun T hT => by
  obtain ⟨h1, h2⟩ := List.mem_filter.1 hT
  refine ⟨by simpa using h2, fun x hx => ?_⟩
  obtain ⟨S, _, rfl⟩ := List.mem_map.1 h1
  have := (List.mem_filter.1 hx).2
  simpa [cleanX] using this
/-- what stands ahead of one more -/
def preC (c : UInt8) (D : List (List UInt8)) : List UInt8 := if D = [] then [] else join D [c] ++ [c]
theorem join_snocC (c : UInt8) : ∀ (D : List (List UInt8)) (x : List UInt8), join (D ++ [x]) [c] = preC c D ++ x
  | [], x => by simp [join_one, preC]
  | [a], x => by rw [List.cons_append, List.nil_append, join_two, join_one]; simp [preC, join_one]
  | a :: b :: r, x => by
    have ih := join_snocC c (b :: r) x
    rw [List.cons_append, List.cons_append, join_two, ← List.cons_append, ih]
    simp [preC, join_two]
theorem join_le (c : UInt8) (T : List (List UInt8)) : (join T [c]).length ≤ gT T := by
  cases T with
  | nil => simp [join_nil]
  | cons x r =>
    rw [join_length]
    simp only [gT, List.length_cons, List.length_nil]
    omega
theorem join_lt (c : UInt8) (T : List (List UInt8)) (h : T ≠ []) : (join T [c]).length + 1 ≤ gT T := by
  cases T with
  | nil => exact absurd rfl h
  | cons x r =>
    rw [join_length]
    simp only [gT, List.length_cons, List.length_nil]
    omega
abbrev partJ (T : List (List UInt8)) : List UInt8 := join T [94]
/-- the field -/
def fieldJ (R : List (List (List UInt8))) : List UInt8 := join (R.map partJ) [126]
theorem fieldJ_g : ∀ R : List (List (List UInt8)), CleanR R → gT (R.map partJ) ≤ bulkR R
  | [], _ => by simp [gT, bulkR, lens]
  | T :: r, h => by
    have h1 := fieldJ_g r (fun S hS => h S (List.mem_cons_of_mem _ hS))
    have h2 := join_lt 94 T (h T (List.mem_cons_self ..)).1
    have e : bulkR (T :: r) = gT T + bulkR r := by simp [bulkR]
    rw [e]
    simp only [gT, lens, List.map_cons, List.sum_cons, List.length_cons, List.length_map] at h1 h2 ⊢
    simp only [partJ] at *
    omega
theorem fieldJ_len (R : List (List (List UInt8))) (h : CleanR R) : (fieldJ R).length ≤ bulkR R := Nat.le_trans (join_le _ _) (fieldJ_g R h)
theorem mem_join {c y : UInt8} : ∀ {T : List (List UInt8)}, y ≠ c → (∀ x ∈ T, y ∉ x) → y ∉ join T [c]
  | [], _, _ => by simp [join_nil]
  | x :: r, hc, h => by
    rw [join_cons]
    have h1 := h x (List.mem_cons_self ..)
    have h2 : ∀ z ∈ r, y ∉ z := fun z hz => h z (List.mem_cons_of_mem _ hz)
    simp only [List.mem_append, not_or, joinTail, List.mem_flatten, List.mem_map, not_exists, not_and]
    refine ⟨h1, ?_⟩
    rintro l ⟨z, hz, rfl⟩ hy
    simp only [List.mem_append, List.mem_singleton] at hy
    rcases hy with hy | hy
    · exact hc hy
    · exact h2 z hz hy
theorem cut_field (R : List (List (List UInt8))) (h : CleanR R) (h0 : R ≠ []) : cutAt 126 (fieldJ R) = R.map partJ := by
  cases R with
  | nil => exact absurd rfl h0
  | cons T r =>
    unfold fieldJ
    rw [List.map_cons]
    refine cutAt_of_join 126 _ _ fun y hy => ?_
    rw [← List.map_cons] at hy
    obtain ⟨S, hS, rfl⟩ := List.mem_map.1 hy
    exact mem_join (by decide) fun x hx => ((h S hS).2 x hx).1
theorem cut_part (T : List (List UInt8)) (h : T ≠ [] ∧ ∀ x ∈ T, (126 : UInt8) ∉ x ∧ (94 : UInt8) ∉ x) : cutAt 94 (partJ T) = T := by
  cases T with
  | nil => exact absurd rfl h.1
  | cons x r => exact cutAt_of_join 94 x r fun y hy => (h.2 y hy).2
theorem parts_field (R : List (List (List UInt8))) (h : CleanR R) (i : Nat) (hi : i < R.length) : partsD (txt (fieldJ R)) plainS ((i : Int) + 1) = R.getD i [] := by
  have h0 : R ≠ [] := fun e => by rw [e] at hi; simp at hi
  have hm : R.getD i [] ∈ R := by
    rw [List.getD_eq_getElem?_getD, List.getElem?_eq_getElem hi]
    exact List.getElem_mem hi
  unfold partsD
  rw [show plainS.c = 126 from rfl, show (txt (fieldJ R)).data.toList = fieldJ R from rfl, cut_field R h h0]
  have hn : nthD (R.map partJ) ((i : Int) + 1) = some (partJ (R.getD i [])) := by
    unfold nthD
    rw [if_pos (by omega), show ((i : Int) + 1 - 1).toNat = i by omega, List.getElem?_map, List.getD_eq_getElem?_getD, List.getElem?_eq_getElem hi]
    rfl
  rw [hn]
  exact cut_part _ (h _ hm)
theorem again_field (R : List (List (List UInt8))) (h : CleanR R) (h0 : R ≠ []) : (cutAt plainS.c (txt (fieldJ R)).data.toList).length = R.length := by
  rw [show plainS.c = 126 from rfl, show (txt (fieldJ R)).data.toList = fieldJ R from rfl, cut_field R h h0, List.length_map]
end Go.Proofs.Ytmambhopdbomfaa
