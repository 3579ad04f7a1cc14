/- Layer 19: texts of steps, one behind the other, parsed (math). -/
import Derived.Test.YtnoppnnpennddaaDoorTrY
namespace Go.Proofs.YtnoppnnpennddaaDoor
open Go.RowKit

/-- an event's line is no output's -/
theorem ev_line {k n kp : Int} {l : List UInt8} (h : (evT k n kp l).2 = 0) : outD (evT k n kp l).1 = none ∧ (evT k n kp l).1 ≠ goneB := by
  have hk0 : ¬ (k < 0 ∨ 9 ≤ k) := by
    intro e
    unfold evT at h
    rw [if_pos e] at h
    exact absurd h (by decide)
  obtain ⟨j, rfl⟩ : ∃ j : Nat, k = j := ⟨k.toNat, by omega⟩
  have hj : j < 9 := by omega
  have hq : ¬ (((rowF j).1 = false ∧ l ≠ []) ∨ ((rowF j).2.1 = false ∧ n ≠ 0) ∨ ((rowF j).2.2 = false ∧ kp ≠ 0)) := by
    intro e
    unfold evT at h
    rw [if_neg hk0, if_pos (by simpa using e)] at h
    exact absurd h (by decide)
  have hT : ∃ t, (evT j n kp l).1 = wordsT j ++ t ∧ t.head? ≠ some 101 := by
    unfold evT
    rw [if_neg hk0, if_neg (by simpa using hq)]
    refine ⟨(if (rowF j).1 = true then 32 :: hexD l else []) ++ (if (rowF j).2.1 = true then 32 :: itoaT n else []) ++ (if (rowF j).2.2 = true then 32 :: itoaT kp else []), by simp, ?_⟩
    split
    · simp
    · split
      · simp
      · split <;> simp
  obtain ⟨t, hT, _⟩ := hT
  rw [hT]
  match j, hj with
  | 0, _ => exact ⟨rfl, by simp [wordsT]⟩
  | 1, _ => exact ⟨rfl, by simp [wordsT]⟩
  | 2, _ => exact ⟨rfl, by simp [wordsT]⟩
  | 3, _ => exact ⟨rfl, by simp [wordsT]⟩
  | 4, _ => exact ⟨rfl, by simp [wordsT]⟩
  | 5, _ => exact ⟨rfl, by simp [wordsT]⟩
  | 6, _ => exact ⟨rfl, by simp [wordsT]⟩
  | 7, _ => exact ⟨rfl, by simp [wordsT]⟩
  | 8, _ => exact ⟨rfl, by simp [wordsT]⟩
/-- one behind the other -/
theorem parseT_app (t : List UInt8) : ∀ (s : List UInt8) (L : List TStep) (n : Nat), (s = [] ∨ s.getLast? = some 10) → parseT L n (s ++ t) = if (parseT L n s).2.2 = 0 then parseT (parseT L n s).1 (parseT L n s).2.1 t else ([], (parseT L n s).2.1, 10) := by
  refine byLines ?_ ?_ ?_
  · intro L n _
    rw [parseT_nil, List.nil_append, if_pos rfl]
  · intro a h0 ha L n h
    rcases h with h | h
    · exact absurd h h0
    · exact absurd (List.mem_of_getLast? h) ha
  · intro a r ha ih L n h
    have hr : r = [] ∨ r.getLast? = some 10 := by
      by_cases e : r = []
      · exact .inl e
      · rcases h with h | h
        · simp at h
        · rw [List.getLast?_append, List.getLast?_cons] at h
          right
          cases hq : r.getLast? with
          | none => exact absurd (List.getLast?_eq_none_iff.1 hq) e
          | some x => rw [hq] at h; simpa using h
    rw [show (a ++ 10 :: r) ++ t = a ++ 10 :: (r ++ t) from by simp, parseT_line L n a _ ha, parseT_line L n a r ha]
    cases hl : lineT L a with
    | none => dsimp only; rw [if_neg (by decide)]
    | some L' => exact ih L' (n + 1) hr
theorem lineT_shift {M L : List TStep} {a : List UInt8} (hL : L ≠ []) : lineT (M ++ L) a = (lineT L a).map (M ++ ·) := by
  have e : L = L.dropLast ++ [L.getLast hL] := (List.dropLast_concat_getLast hL).symm
  generalize L.dropLast = K at e
  generalize L.getLast hL = x at e
  subst e
  rw [← List.append_assoc]
  by_cases ho : ∃ b l, outD a = some (b, l)
  · obtain ⟨b, l, ho⟩ := ho
    rw [lineT_out ho, lineT_out ho]
    split <;> simp
  · have hn : outD a = none := by
      cases h : outD a with
      | none => rfl
      | some p => exact absurd ⟨p.1, p.2, h⟩ ho
    by_cases hg : a = goneB
    · rw [lineT_gone hn hg, lineT_gone hn hg]
      split <;> simp
    · rw [lineT_ev hn hg, lineT_ev hn hg]
      split <;> simp
theorem lineT_some {L L' : List TStep} {a : List UInt8} (h : lineT L a = some L') : L' ≠ [] := by
  unfold lineT at h
  split at h
  · split at h
    · cases h
    · split at h
      · cases h
      · injection h with h; subst h; simp
  · split at h
    · split at h
      · cases h
      · split at h
        · cases h
        · injection h with h; subst h; simp
    · split at h
      · cases h
      · injection h with h; subst h; simp
def shiftT (M : List TStep) (m : Nat) (r : List TStep × Nat × Int) : List TStep × Nat × Int := if r.2.2 = 0 then (M ++ r.1, m + r.2.1, 0) else ([], m + r.2.1, 10)
theorem shift_bad (M : List TStep) (m n : Nat) : shiftT M m ([], n, 10) = ([], m + n, 10) := if_neg (by decide : ¬ (10 : Int) = 0)
theorem parseT_shift (M : List TStep) (m : Nat) : ∀ (t : List UInt8) (L : List TStep) (n : Nat), L ≠ [] → parseT (M ++ L) (m + n) t = shiftT M m (parseT L n t) := by
  refine byLines ?_ ?_ ?_
  · intro L n _
    rw [parseT_nil, parseT_nil, shiftT, if_pos rfl]
  · intro a h0 ha L n _
    rw [parseT_open _ _ a h0 ha, parseT_open _ _ a h0 ha, shift_bad]
  · intro a r ha ih L n hL
    rw [parseT_line _ _ a r ha, parseT_line _ _ a r ha, lineT_shift hL]
    cases hl : lineT L a with
    | none => simp only [Option.map_none]; rw [shift_bad]
    | some L' =>
      simp only [Option.map_some]
      rw [Nat.add_assoc]
      exact ih L' (n + 1) (lineT_some hl)
theorem parseT_steps (M : List TStep) (m : Nat) {b : List TStep} (hb : ∀ x ∈ b, codeT x = 0) : parseT M m (stepsT b) = shiftT M m (parseT [] 0 (stepsT b)) := by
  cases b with
  | nil =>
    rw [show stepsT [] = [] from rfl, parseT_nil, parseT_nil, shiftT, if_pos rfl]
    simp
  | cons x b =>
    obtain ⟨h1, h2⟩ := ev_line (hb x (by simp))
    have e : stepsT (x :: b) = (evT x.k x.n x.kp x.l).1 ++ 10 :: (outsT x.outs ++ (goneT x.cr ++ stepsT b)) := by simp [stepsT, stepT]
    rw [e, parseT_line _ _ _ _ (evT_no10 x.k x.n x.kp x.l), parseT_line _ _ _ _ (evT_no10 x.k x.n x.kp x.l), lineT_ev h1 h2, lineT_ev h1 h2]
    cases hr : readW (wordsN (evT x.k x.n x.kp x.l).1) with
    | none => dsimp only; rw [shift_bad]; rfl
    | some q =>
      obtain ⟨k, n, kp, l⟩ := q
      dsimp only
      rw [List.nil_append]
      exact parseT_shift M m _ _ (0 + 1) (by simp)
/-- without its last byte -/
theorem readW_nil : readW (wordsN []) = none := readW_one []
theorem parseT_cut : ∀ (u : List UInt8) (L M : List TStep) (n k : Nat), parseT L n (u ++ [10]) = (M, k, 0) → ∃ k', k = k' + 1 ∧ parseT L n u = ([], k', 10) := by
  refine byLines ?_ ?_ ?_
  · intro L M n k h
    rw [show ([] : List UInt8) ++ [10] = [] ++ 10 :: [] from rfl, parseT_line L n [] [] (by simp)] at h
    have : lineT L [] = none := by
      rw [lineT_ev (by rfl) (by decide), readW_nil]
    rw [this] at h
    simp at h
  · intro a h0 ha L M n k h
    rw [show a ++ [10] = a ++ 10 :: [] from rfl, parseT_line L n a [] ha] at h
    rw [parseT_open L n a h0 ha]
    cases hl : lineT L a with
    | none => rw [hl] at h; simp at h
    | some L' =>
      rw [hl] at h
      dsimp only at h
      rw [parseT_nil] at h
      simp only [Prod.mk.injEq] at h
      exact ⟨n, h.2.1.symm, rfl⟩
  · intro a r ha ih L M n k h
    rw [show (a ++ 10 :: r) ++ [10] = a ++ 10 :: (r ++ [10]) from by simp, parseT_line L n a _ ha] at h
    rw [parseT_line L n a r ha]
    cases hl : lineT L a with
    | none => rw [hl] at h; simp at h
    | some L' =>
      rw [hl] at h
      dsimp only at h ⊢
      exact ih L' M (n + 1) k h
theorem parseT_code (L : List TStep) (n : Nat) (s : List UInt8) (hL : ∀ x ∈ L, Small x) : (parseT L n s).2.2 = 0 ∨ (parseT L n s).2.2 = 10 := by
  rcases h : parseT L n s with ⟨M, k, e⟩
  rcases parse_back s L M n k e h hL with h | h
  · exact .inl h.1
  · exact .inr h.1
theorem parseT_lines : ∀ (s : List UInt8) (L : List TStep) (n : Nat), (parseT L n s).2.1 ≤ n + s.length := by
  refine byLines ?_ ?_ ?_
  · intro L n; rw [parseT_nil]; simp
  · intro a h0 ha L n; rw [parseT_open L n a h0 ha]; simp
  · intro a r ha ih L n
    rw [parseT_line L n a r ha]
    cases hl : lineT L a with
    | none => simp
    | some L' => have := ih L' (n + 1); simp only [List.length_append, List.length_cons]; omega
end Go.Proofs.YtnoppnnpennddaaDoor
