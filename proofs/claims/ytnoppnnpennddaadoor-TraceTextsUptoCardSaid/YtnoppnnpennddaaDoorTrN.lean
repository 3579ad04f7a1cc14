/- Layer 19: numbers' texts back, and words cut (math). -/
import Derived.Test.YtnoppnnpennddaaDoorTr4
import Derived.Lib.ItoaMem
namespace Go.Proofs.YtnoppnnpennddaaDoor
open Go.RowKit

theorem splitK_more : ∀ (k : Nat) (l : List UInt8), l.count 32 ≤ k → Lib.splitK [32] 0 k l = cutAt 32 l
  | 0, l, h => by
    have h0 : (32 : UInt8) ∉ l := List.count_eq_zero.1 (by omega)
    rw [cutAt_none 32 l h0]
    rfl
  | k + 1, l, h => by
    by_cases hm : (32 : UInt8) ∈ l
    · obtain ⟨a, r, rfl, ha⟩ := List.eq_append_cons_of_mem hm
      have hi := index_clean 32 r a ha
      unfold Lib.splitK
      rw [hi, if_neg (by simp)]
      have hc : r.count 32 ≤ k := by
        rw [List.count_append, List.count_cons_self] at h
        omega
      rw [cutAt_clean 32 r a ha, ← splitK_more k r hc]
      simp
    · have h1 := splitK_cut 32 0 l (List.count_eq_zero.2 hm)
      have h2 : Lib.index l [32] = -1 := by
        refine Lib.index_none (fun j hj => ?_)
        rw [← Bool.not_eq_true]
        intro ho
        apply hm
        unfold Lib.occAt at ho
        cases hd : l.drop j with
        | nil => rw [hd] at ho; exact absurd ho (by decide)
        | cons x r =>
          rw [hd] at ho
          simp only [List.isPrefixOf, Bool.and_true, beq_iff_eq] at ho
          rw [ho]
          exact List.mem_of_mem_drop (by rw [hd]; exact List.mem_cons_self)
      unfold Lib.splitK
      rw [h2, cutAt_none 32 l hm]
      rfl
theorem wordsN_few (l : List UInt8) (h : l.count 32 ≤ 3) : wordsN l = cutAt 32 l := by
  unfold wordsN
  have := List.count_le_length (a := (32 : UInt8)) (l := l)
  exact splitK_more _ l (by omega)
theorem words2 (a b : List UInt8) (ha : (32 : UInt8) ∉ a) (hb : (32 : UInt8) ∉ b) : wordsN (a ++ 32 :: b) = [a, b] := by
  have ca := List.count_eq_zero.2 ha
  have cb := List.count_eq_zero.2 hb
  rw [wordsN_few _ (by rw [List.count_append, List.count_cons_self, ca, cb]; omega), cutAt_clean 32 b a ha, cutAt_none 32 b hb]
theorem words3 (a b c : List UInt8) (ha : (32 : UInt8) ∉ a) (hb : (32 : UInt8) ∉ b) (hc : (32 : UInt8) ∉ c) : wordsN (a ++ 32 :: (b ++ 32 :: c)) = [a, b, c] := by
  have ca := List.count_eq_zero.2 ha
  have cb := List.count_eq_zero.2 hb
  have cc := List.count_eq_zero.2 hc
  rw [wordsN_few _ (by rw [List.count_append, List.count_cons_self, List.count_append, List.count_cons_self, ca, cb, cc]; omega), cutAt_clean 32 _ a ha, cutAt_clean 32 c b hb, cutAt_none 32 c hc]

theorem dec_step {u : Nat} (h : ¬ u < 10) : Lib.decDigits u = Lib.decDigits (u / 10) ++ [UInt8.ofNat (48 + u % 10)] := by
  rw [Lib.decDigits, dif_neg h]
theorem digit_nat (r : Nat) (h : r < 10) : (UInt8.ofNat (48 + r)).toNat = 48 + r := by
  rw [UInt8.toNat_ofNat']
  exact Nat.mod_eq_of_lt (by omega)
theorem dec_val (u : Nat) : valN (Lib.decDigits u) = u := by
  induction u using Nat.strongRecOn with
  | ind u ih =>
    by_cases h : u < 10
    · rw [Lib.decDigits_one h]
      unfold valN
      simp only [List.foldl_cons, List.foldl_nil]
      rw [digit_nat u h]
      omega
    · rw [dec_step h, valN_snoc, ih (u / 10) (by omega), digit_nat _ (by omega)]
      omega
theorem dec_dig (u : Nat) : ∀ c ∈ Lib.decDigits u, digB c = true := by
  induction u using Nat.strongRecOn with
  | ind u ih =>
    by_cases h : u < 10
    · rw [Lib.decDigits_one h]
      intro c hc
      simp only [List.mem_singleton] at hc
      rw [hc]
      simp only [digB, digit_nat u h, Bool.and_eq_true, decide_eq_true_eq]
      omega
    · rw [dec_step h]
      intro c hc
      rcases List.mem_append.1 hc with hc | hc
      · exact ih (u / 10) (by omega) c hc
      · simp only [List.mem_singleton] at hc
        rw [hc]
        simp only [digB, digit_nat (u % 10) (by omega), Bool.and_eq_true, decide_eq_true_eq]
        omega
theorem dec_len (k : Nat) : ∀ u, u < 10 ^ (k + 1) → (Lib.decDigits u).length ≤ k + 1 := by
  induction k with
  | zero =>
    intro u hu
    rw [Lib.decDigits_one (by simpa using hu)]
    simp
  | succ k ih =>
    intro u hu
    by_cases h : u < 10
    · rw [Lib.decDigits_one h]; simp
    · rw [dec_step h, List.length_append]
      have := ih (u / 10) (by rw [Nat.pow_succ] at hu; omega)
      simp only [List.length_cons, List.length_nil]
      omega
theorem dec_pos (u : Nat) : 1 ≤ (Lib.decDigits u).length := by
  by_cases h : u < 10
  · rw [Lib.decDigits_one h]; simp
  · rw [dec_step h, List.length_append]; simp
theorem dec_head (u : Nat) (hu : 1 ≤ u) : (Lib.decDigits u).getD 0 0 ≠ 48 := by
  induction u using Nat.strongRecOn with
  | ind u ih =>
    by_cases h : u < 10
    · rw [Lib.decDigits_one h]
      simp only [List.getD_cons_zero]
      intro e
      have := congrArg UInt8.toNat e
      rw [digit_nat u h] at this
      simp at this
      omega
    · rw [dec_step h]
      have hp := dec_pos (u / 10)
      have := ih (u / 10) (by omega) (by omega)
      rw [List.getD_eq_getElem?_getD, List.getElem?_append_left (by omega), ← List.getD_eq_getElem?_getD]
      exact this
theorem dec_right (u : Nat) (hu : u < 1000000000000000000) : rightN (Lib.decDigits u) = true := by
  have h1 := dec_pos u
  have h2 := dec_len 17 u (by simpa using hu)
  have h3 : (decide (1 < (Lib.decDigits u).length) && decide ((Lib.decDigits u).getD 0 0 = 48)) = false := by
    rw [Bool.and_eq_false_iff]
    by_cases h0 : u = 0
    · subst h0
      left
      rw [Lib.decDigits_one (by omega)]
      rfl
    · right
      exact decide_eq_false (dec_head u (by omega))
  unfold rightN
  rw [decide_eq_true h1, decide_eq_true h2, h3, List.all_eq_true.2 (dec_dig u)]
  rfl
theorem dec_minus (u : Nat) : minusN (Lib.decDigits u) = false := by
  unfold minusN
  rw [decide_eq_false_iff_not]
  intro e
  have hm : (45 : UInt8) ∈ Lib.decDigits u := List.mem_of_head? e
  have := dec_dig u 45 hm
  exact absurd this (by decide)
/-- a number's text tells it -/
theorem num_itoa (n : Int) (h0 : -1000000000000000000 < n) (h1 : n < 1000000000000000000) : numT (Lib.itoa n) = (n, true) := by
  by_cases hn : n < 0
  · have hi : Lib.itoa n = 45 :: Lib.decDigits n.natAbs := by unfold Lib.itoa; rw [if_pos hn]
    have hmi : minusN (45 :: Lib.decDigits n.natAbs) = true := rfl
    have hd : digsN (45 :: Lib.decDigits n.natAbs) = Lib.decDigits n.natAbs := by unfold digsN; rw [if_pos hmi]; rfl
    have hu : n.natAbs < 1000000000000000000 := by omega
    rw [hi]
    unfold numT
    rw [hd, if_neg, if_pos hmi, dec_val]
    · congr 1
      omega
    · rintro (h | h)
      · rw [dec_right _ hu] at h; cases h
      · have := dec_head n.natAbs (by omega)
        rw [h.2] at this
        exact this rfl
  · have hi : Lib.itoa n = Lib.decDigits n.toNat := by unfold Lib.itoa; rw [if_neg hn]
    have hmi := dec_minus n.toNat
    have hd : digsN (Lib.decDigits n.toNat) = Lib.decDigits n.toNat := by unfold digsN; rw [if_neg (by rw [hmi]; decide)]
    rw [hi]
    unfold numT
    rw [hd, if_neg, if_neg (by rw [hmi]; decide), dec_val]
    · congr 1
      omega
    · rintro (h | h)
      · rw [dec_right _ (by omega)] at h; cases h
      · rw [hmi] at h; exact absurd h.1 (by decide)
theorem itoa_mem (n : Int) : ∀ c ∈ Lib.itoa n, c = 45 ∨ digB c = true := by
  unfold Lib.itoa
  split
  · intro c hc
    rcases List.mem_cons.1 hc with h | h
    · exact .inl h
    · exact .inr (dec_dig _ c h)
  · intro c hc
    exact .inr (dec_dig _ c hc)
theorem itoa_no32 (n : Int) : (32 : UInt8) ∉ Lib.itoa n := fun h => by
  rcases itoa_mem n 32 h with h | h
  · exact absurd h (by decide)
  · exact absurd h (by decide)
theorem itoa_pos (n : Int) : 1 ≤ (Lib.itoa n).length := by
  unfold Lib.itoa
  split
  · simp
  · exact dec_pos _
theorem num_nought (X : List UInt8) (h : 1 ≤ X.length) : numT (48 :: X) = (0, false) := by
  have hmi : minusN (48 :: X) = false := rfl
  have hd : digsN (48 :: X) = 48 :: X := by unfold digsN; rw [if_neg (by rw [hmi]; decide)]
  have hr : rightN (48 :: X) = false := by
    unfold rightN
    rw [decide_eq_true (p := 1 < (48 :: X).length) (by simp; omega), decide_eq_true (p := (48 :: X).getD 0 0 = 48) rfl]
    simp
  unfold numT
  rw [hd, if_pos (.inl hr)]
theorem num_plus (X : List UInt8) : numT (43 :: X) = (0, false) := by
  have hmi : minusN (43 :: X) = false := rfl
  have hd : digsN (43 :: X) = 43 :: X := by unfold digsN; rw [if_neg (by rw [hmi]; decide)]
  have hr : rightN (43 :: X) = false := by
    unfold rightN
    rw [show (43 :: X).all digB = false from rfl]
    simp
  unfold numT
  rw [hd, if_pos (.inl hr)]
/-- what the words of an arm, and of a tick, tell -/
theorem read_arm (X Y : List UInt8) (a b : Int) (hX : numT X = (a, true)) (hY : numT Y = (b, true)) : readW [[97, 114, 109], X, Y] = some (7, a, b, []) := by
  rw [readW_at (W := [[97, 114, 109], X, Y]) (k := 7) (by omega) (fun j hj => by
    match j, hj with
    | 0, _ => rfl
    | 1, _ => rfl
    | 2, _ => rfl
    | 3, _ => rfl
    | 4, _ => rfl
    | 5, _ => rfl
    | 6, _ => rfl) (F := [X, Y]) rfl]
  simp [fieldsE, rowF, hX, hY]
theorem read_tick (F : List (List UInt8)) : readW ([116, 105, 99, 107] :: F) = (fieldsE false true false F).map fun r => ((4 : Int), r.2.1, r.2.2, r.1) := by
  rw [readW_at (W := [116, 105, 99, 107] :: F) (k := 4) (by omega) (fun j hj => by
    match j, hj with
    | 0, _ => rfl
    | 1, _ => rfl
    | 2, _ => rfl
    | 3, _ => rfl) (F := F) rfl]
  rfl
theorem read_tick1 (X : List UInt8) (h : (numT X).2 = false) : readW [[116, 105, 99, 107], X] = none := by
  rw [read_tick]
  simp [fieldsE, h]
theorem read_tick2 (X Y : List UInt8) : readW [[116, 105, 99, 107], X, Y] = none := by
  rw [read_tick]
  simp [fieldsE]
end Go.Proofs.YtnoppnnpennddaaDoor
