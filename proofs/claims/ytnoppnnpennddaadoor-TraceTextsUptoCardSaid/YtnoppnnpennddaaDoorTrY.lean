/- Layer 19: steps' texts and what is parsed of them: each tells the other (math). -/
import Derived.Test.YtnoppnnpennddaaDoorTrW
import Derived.Test.YtnoppnnpennddaaDoorTrR
import Derived.Test.YtnoppnnpennddaaDoorTrF
namespace Go.Proofs.YtnoppnnpennddaaDoor
open Go.RowKit

theorem uof (c : UInt8) (h : 48 ≤ c.toNat) : UInt8.ofNat (48 + (c.toNat - 48)) = c := by
  rw [show 48 + (c.toNat - 48) = c.toNat from by omega]
  exact UInt8.ofNat_toNat
theorem dec_of_val : ∀ (n : Nat) (t : List UInt8), t.length = n → t ≠ [] → (∀ c ∈ t, digB c = true) → (t.length = 1 ∨ t.getD 0 0 ≠ 48) → Lib.decDigits (valN t) = t := by
  intro n
  induction n with
  | zero => intro t h1 h2; exact absurd (List.length_eq_zero_iff.1 h1) h2
  | succ n ih =>
    intro t h1 h2 h3 h4
    rcases List.eq_nil_or_concat t with h | ⟨r, c, h⟩
    · exact absurd h h2
    have h : t = r ++ [c] := by rw [h, List.concat_eq_append]
    subst h
    have hc := h3 c (by simp)
    simp only [digB, Bool.and_eq_true, decide_eq_true_eq] at hc
    rw [valN_snoc]
    by_cases hr : r = []
    · subst hr
      rw [show valN [] = 0 from rfl, Lib.decDigits_one (by omega), show 10 * 0 + (c.toNat - 48) = c.toNat - 48 from by omega, uof c hc.1]
      rfl
    · have hl : 0 < r.length := List.length_pos_iff.2 hr
      have h5 : r.getD 0 0 ≠ 48 := by
        rcases h4 with h | h
        · simp at h; exact absurd h hr
        · rw [List.getD_eq_getElem?_getD, List.getElem?_append_left hl, ← List.getD_eq_getElem?_getD] at h
          exact h
      have h6 := ih r (by simpa using h1) hr (fun c hc => h3 c (List.mem_append_left _ hc)) (.inr h5)
      have h7 : 1 ≤ valN r := by
        by_cases h0 : valN r = 0
        · rw [h0, Lib.decDigits_one (by omega)] at h6
          rw [← h6] at h5
          exact absurd rfl h5
        · omega
      rw [dec_step (by omega), show (10 * valN r + (c.toNat - 48)) / 10 = valN r from by omega, show (10 * valN r + (c.toNat - 48)) % 10 = c.toNat - 48 from by omega, h6, uof c hc.1]
theorem right_of {t : List UInt8} (h : rightN t = true) : 1 ≤ t.length ∧ t.length ≤ 18 ∧ (t.length = 1 ∨ t.getD 0 0 ≠ 48) ∧ ∀ c ∈ t, digB c = true := by
  unfold rightN at h
  simp only [Bool.and_eq_true, decide_eq_true_eq, Bool.not_eq_true', Bool.and_eq_false_iff, decide_eq_false_iff_not, List.all_eq_true] at h
  obtain ⟨⟨⟨h1, h2⟩, h3⟩, h4⟩ := h
  refine ⟨h1, h2, ?_, h4⟩
  rcases h3 with h3 | h3
  · exact .inl (by omega)
  · exact .inr h3
/-- a text that tells a number is that number's -/
theorem itoa_num {s : List UInt8} {n : Int} (h : numT s = (n, true)) : itoaT n = s ∧ -1000000000000000000 < n ∧ n < 1000000000000000000 := by
  unfold numT at h
  split at h
  · simp at h
  rename_i hq
  rw [not_or] at hq
  obtain ⟨hq1, hq2⟩ := hq
  obtain ⟨r1, r2, r3, r4⟩ := right_of (by simpa using hq1)
  have hd := dec_of_val _ _ rfl (List.length_pos_iff.1 r1) r4 r3
  have hv := valN_lt _ _ (Nat.le_refl _) r4
  rw [List.take_length] at hv
  have hv2 : valN (digsN s) < 1000000000000000000 := Nat.lt_of_lt_of_le hv (Nat.le_trans (Nat.pow_le_pow_right (by omega) r2) (by decide))
  by_cases hm : minusN s = true
  · rw [if_pos hm] at h
    simp only [Prod.mk.injEq, and_true] at h
    have hs : s = 45 :: digsN s := by
      unfold digsN
      rw [if_pos hm]
      unfold minusN at hm
      rw [decide_eq_true_iff] at hm
      cases s with
      | nil => cases hm
      | cons a r => simp at hm; rw [hm]; rfl
    have h0 : valN (digsN s) ≠ 0 := by
      intro e
      rw [e, Lib.decDigits_one (by omega)] at hd
      exact hq2 ⟨hm, hd.symm⟩
    subst h
    refine ⟨?_, by omega, by omega⟩
    show Lib.itoa _ = _
    unfold Lib.itoa
    rw [if_pos (by omega), show (-(valN (digsN s) : Int)).natAbs = valN (digsN s) from by omega, hd]
    exact hs.symm
  · rw [if_neg hm] at h
    simp only [Prod.mk.injEq, and_true] at h
    have hs : digsN s = s := by unfold digsN; rw [if_neg hm]
    subst h
    refine ⟨?_, by omega, by omega⟩
    show Lib.itoa _ = _
    unfold Lib.itoa
    rw [if_neg (by omega), Int.toNat_natCast, hd]
    exact hs
theorem hexD_no32 (l : List UInt8) : (32 : UInt8) ∉ hexD l := by
  unfold hexD
  split
  · decide
  · intro h
    obtain ⟨c, _, hc⟩ := List.mem_flatMap.1 h
    have key : ∀ k : Fin 16, digL.getD k.val 0 ≠ 32 := by decide
    have hl := c.toNat_lt
    simp only [hexT, List.mem_cons, List.not_mem_nil, or_false] at hc
    rcases hc with e | e
    · exact key ⟨c.toNat / 16, by omega⟩ e.symm
    · exact key ⟨c.toNat % 16, by omega⟩ e.symm
/-- the fields of one word, and of two -/
theorem fields_b (b : List UInt8) : fieldsE true false false [b] = (bytesD b).map fun l => (l, 0, 0) := by
  unfold fieldsE
  cases h : bytesD b <;> simp [h]
theorem fields_n (b : List UInt8) : fieldsE false true false [b] = if (numT b).2 = true then some ([], (numT b).1, 0) else none := by
  unfold fieldsE
  cases h : (numT b).2 <;> simp [h]
theorem fields_k (b : List UInt8) : fieldsE false false true [b] = if (numT b).2 = true then some ([], 0, (numT b).1) else none := by
  unfold fieldsE
  cases h : (numT b).2 <;> simp [h]
theorem fields_nk (b c : List UInt8) : fieldsE false true true [b, c] = if (numT b).2 = true ∧ (numT c).2 = true then some ([], (numT b).1, (numT c).1) else none := by
  unfold fieldsE
  cases h : (numT b).2 <;> cases h' : (numT c).2 <;> simp [h, h']
theorem fields_nk1 (b : List UInt8) : fieldsE false true true [b] = none := by
  have := numT_nil
  unfold fieldsE
  simp [this]
theorem fields_0 : fieldsE false false false [] = some ([], 0, 0) := rfl
theorem fields_01 (b : List UInt8) : fieldsE false false false [b] = none := by simp [fieldsE]
theorem num_of {b : List UInt8} (h : (numT b).2 = true) : numT b = ((numT b).1, true) := by rw [← h]
/-- an event that is read has that text -/
theorem read_ev {s : List UInt8} {k n kp : Int} {l : List UInt8} (h : readW (wordsN s) = some (k, n, kp, l)) : evT k n kp l = (s, 0) ∧ -1000000000000000000 < n ∧ n < 1000000000000000000 ∧ -1000000000000000000 < kp ∧ kp < 1000000000000000000 := by
  have hlen : (cutAt 32 s).length ≤ 3 := by
    by_cases hh : 3 < (cutAt 32 s).length
    · rw [cut_many hh] at h; cases h
    · omega
  rw [cut_few hlen] at h
  have hj := cutAt_join 32 s
  have hne := cutAt_ne 32 s
  match hw : cutAt 32 s, hlen, hne with
  | [a], _, _ => rw [hw, readW_one] at h; cases h
  | [a, b], _, _ =>
    rw [hw] at h hj
    rw [join_two, Lib.join_one] at hj
    subst hj
    clear hw hlen hne
    by_cases hd : a = [100, 114, 111, 112]
    · subst hd
      by_cases h1 : b = [105, 110]
      · subst h1
        rw [readW_dropin, fields_0] at h
        simp only [Option.map_some, Option.some.injEq, Prod.mk.injEq] at h
        obtain ⟨rfl, rfl, rfl, rfl⟩ := h
        exact ⟨rfl, by omega, by omega, by omega, by omega⟩
      by_cases h2 : b = [111, 117, 116]
      · subst h2
        rw [readW_dropout, fields_0] at h
        simp only [Option.map_some, Option.some.injEq, Prod.mk.injEq] at h
        obtain ⟨rfl, rfl, rfl, rfl⟩ := h
        exact ⟨rfl, by omega, by omega, by omega, by omega⟩
      rw [readW_drop _ h1 h2] at h; cases h
    by_cases h_in : a = [105, 110]
    · subst h_in
      rw [readW_in, fields_b] at h
      cases hb : bytesD b with
      | none => rw [hb] at h; cases h
      | some m =>
        rw [hb] at h
        simp only [Option.map_some, Option.some.injEq, Prod.mk.injEq] at h
        obtain ⟨rfl, rfl, rfl, rfl⟩ := h
        exact ⟨by simp [evT, rowF, wordsT, hex_bytes hb], by omega, by omega, by omega, by omega⟩
    by_cases h_out : a = [111, 117, 116]
    · subst h_out
      rw [readW_out, fields_b] at h
      cases hb : bytesD b with
      | none => rw [hb] at h; cases h
      | some m =>
        rw [hb] at h
        simp only [Option.map_some, Option.some.injEq, Prod.mk.injEq] at h
        obtain ⟨rfl, rfl, rfl, rfl⟩ := h
        exact ⟨by simp [evT, rowF, wordsT, hex_bytes hb], by omega, by omega, by omega, by omega⟩
    by_cases h_tick : a = [116, 105, 99, 107]
    · subst h_tick
      rw [readW_tick, fields_n] at h
      split at h
      · rename_i hb
        simp only [Option.map_some, Option.some.injEq, Prod.mk.injEq] at h
        obtain ⟨rfl, rfl, rfl, rfl⟩ := h
        have hi := itoa_num (num_of hb)
        exact ⟨by simp [evT, rowF, wordsT, hi.1], hi.2.1, hi.2.2, by omega, by omega⟩
      · cases h
    by_cases h_room : a = [114, 111, 111, 109]
    · subst h_room
      rw [readW_room, fields_n] at h
      split at h
      · rename_i hb
        simp only [Option.map_some, Option.some.injEq, Prod.mk.injEq] at h
        obtain ⟨rfl, rfl, rfl, rfl⟩ := h
        have hi := itoa_num (num_of hb)
        exact ⟨by simp [evT, rowF, wordsT, hi.1], hi.2.1, hi.2.2, by omega, by omega⟩
      · cases h
    by_cases h_failsync : a = [102, 97, 105, 108, 115, 121, 110, 99]
    · subst h_failsync
      rw [readW_failsync, fields_n] at h
      split at h
      · rename_i hb
        simp only [Option.map_some, Option.some.injEq, Prod.mk.injEq] at h
        obtain ⟨rfl, rfl, rfl, rfl⟩ := h
        have hi := itoa_num (num_of hb)
        exact ⟨by simp [evT, rowF, wordsT, hi.1], hi.2.1, hi.2.2, by omega, by omega⟩
      · cases h
    by_cases h_arm : a = [97, 114, 109]
    · subst h_arm
      rw [readW_arm, fields_nk1] at h; cases h
    by_cases h_power : a = [112, 111, 119, 101, 114]
    · subst h_power
      rw [readW_power, fields_k] at h
      split at h
      · rename_i hb
        simp only [Option.map_some, Option.some.injEq, Prod.mk.injEq] at h
        obtain ⟨rfl, rfl, rfl, rfl⟩ := h
        have hi := itoa_num (num_of hb)
        exact ⟨by simp [evT, rowF, wordsT, hi.1], by omega, by omega, hi.2.1, hi.2.2⟩
      · cases h
    rw [readW_other _ hd h_in h_out h_tick h_room h_failsync h_arm h_power] at h; cases h
  | [a, b, c], _, _ =>
    rw [hw] at h hj
    rw [join_two, join_two, Lib.join_one] at hj
    subst hj
    clear hw hlen hne
    by_cases h_arm : a = [97, 114, 109]
    · subst h_arm
      rw [readW_arm, fields_nk] at h
      split at h
      · rename_i hb
        simp only [Option.map_some, Option.some.injEq, Prod.mk.injEq] at h
        obtain ⟨rfl, rfl, rfl, rfl⟩ := h
        have hi := itoa_num (num_of hb.1)
        have hk := itoa_num (num_of hb.2)
        exact ⟨by simp [evT, rowF, wordsT, hi.1, hk.1], hi.2.1, hi.2.2, hk.2.1, hk.2.2⟩
      · cases h
    · rw [readW_three a b c h_arm] at h; cases h
/-- .. and the other way about -/
theorem ev_read {k n kp : Int} {l : List UInt8} (h : (evT k n kp l).2 = 0) (hn : -1000000000000000000 < n ∧ n < 1000000000000000000) (hk : -1000000000000000000 < kp ∧ kp < 1000000000000000000) :
    readW (wordsN (evT k n kp l).1) = some (k, n, kp, l) ∧ outD (evT k n kp l).1 = none ∧ (evT k n kp l).1 ≠ goneB := by
  have hk0 : ¬ (k < 0 ∨ 9 ≤ k) := by
    intro e
    unfold evT at h
    rw [if_pos e] at h
    exact absurd h (by decide)
  obtain ⟨j, rfl⟩ : ∃ j : Nat, k = j := ⟨k.toNat, by omega⟩
  have hj : j < 9 := by omega
  have hq : ¬ (((rowF j).1 = false ∧ l ≠ []) ∨ ((rowF j).2.1 = false ∧ n ≠ 0) ∨ ((rowF j).2.2 = false ∧ kp ≠ 0)) := by
    intro e
    unfold evT at h
    rw [if_neg hk0, if_pos (by simpa using e)] at h
    exact absurd h (by decide)
  have hT : (evT j n kp l).1 = wordsT j ++ (if (rowF j).1 = true then 32 :: hexD l else []) ++ (if (rowF j).2.1 = true then 32 :: itoaT n else []) ++ (if (rowF j).2.2 = true then 32 :: itoaT kp else []) := by
    unfold evT
    rw [if_neg hk0, if_neg (by simpa using hq)]
    simp
  have hi := num_itoa n hn.1 hn.2
  have hi2 := num_itoa kp hk.1 hk.2
  have hb := bytes_hex l
  have h32 := hexD_no32 l
  have n32 := itoa_no32 n
  have k32 := itoa_no32 kp
  rw [hT]
  clear hT h hk0
  match j, hj with
  | 0, _ =>
    simp [rowF] at hq
    obtain ⟨rfl, rfl⟩ := hq
    simp only [rowF, wordsT, if_true, Bool.false_eq_true, if_false, List.append_nil]
    rw [words2 [105, 110] _ (by decide) h32, readW_in, fields_b, hb]
    exact ⟨rfl, rfl, by simp⟩
  | 1, _ =>
    simp [rowF] at hq
    obtain ⟨rfl, rfl⟩ := hq
    simp only [rowF, wordsT, if_true, Bool.false_eq_true, if_false, List.append_nil]
    rw [words2 [111, 117, 116] _ (by decide) h32, readW_out, fields_b, hb]
    exact ⟨rfl, rfl, by simp⟩
  | 2, _ =>
    simp [rowF] at hq
    obtain ⟨rfl, rfl, rfl⟩ := hq
    simp only [rowF, wordsT, Bool.false_eq_true, if_false, List.append_nil]
    refine ⟨by decide +kernel, by decide +kernel, by decide⟩
  | 3, _ =>
    simp [rowF] at hq
    obtain ⟨rfl, rfl, rfl⟩ := hq
    simp only [rowF, wordsT, Bool.false_eq_true, if_false, List.append_nil]
    refine ⟨by decide +kernel, by decide +kernel, by decide⟩
  | 4, _ =>
    simp [rowF] at hq
    obtain ⟨rfl, rfl⟩ := hq
    simp only [rowF, wordsT, if_true, Bool.false_eq_true, if_false, List.append_nil]
    rw [words2 [116, 105, 99, 107] _ (by decide) n32, readW_tick, fields_n, hi]
    exact ⟨rfl, rfl, by simp⟩
  | 5, _ =>
    simp [rowF] at hq
    obtain ⟨rfl, rfl⟩ := hq
    simp only [rowF, wordsT, if_true, Bool.false_eq_true, if_false, List.append_nil]
    rw [words2 [114, 111, 111, 109] _ (by decide) n32, readW_room, fields_n, hi]
    exact ⟨rfl, rfl, by simp⟩
  | 6, _ =>
    simp [rowF] at hq
    obtain ⟨rfl, rfl⟩ := hq
    simp only [rowF, wordsT, if_true, Bool.false_eq_true, if_false, List.append_nil]
    rw [words2 [102, 97, 105, 108, 115, 121, 110, 99] _ (by decide) n32, readW_failsync, fields_n, hi]
    exact ⟨rfl, rfl, by simp⟩
  | 7, _ =>
    simp [rowF] at hq
    obtain rfl := hq
    simp only [rowF, wordsT, if_true, Bool.false_eq_true, if_false, List.append_nil]
    rw [show ([97, 114, 109] : List UInt8) ++ 32 :: itoaT n ++ 32 :: itoaT kp = [97, 114, 109] ++ 32 :: (itoaT n ++ 32 :: itoaT kp) from by simp, words3 [97, 114, 109] _ _ (by decide) n32 k32, readW_arm, fields_nk, hi, hi2]
    exact ⟨rfl, rfl, by simp⟩
  | 8, _ =>
    simp [rowF] at hq
    obtain ⟨rfl, rfl⟩ := hq
    simp only [rowF, wordsT, if_true, Bool.false_eq_true, if_false, List.append_nil]
    rw [words2 [112, 111, 119, 101, 114] _ (by decide) k32, readW_power, fields_k, hi2]
    exact ⟨rfl, rfl, by simp⟩
/-- an output's text, and back -/
theorem outD_outT (x : TOut) : outD (outT x) = some (x.back, x.l) := by
  have hb := bytes_hex x.l
  unfold outT outD
  cases hx : x.back
  · have h1 : backB.isPrefixOf ([111, 110, 32] ++ hexD x.l) = false := rfl
    have h2 : onB.isPrefixOf ([111, 110, 32] ++ hexD x.l) = true := rfl
    simp only [Bool.false_eq_true, if_false]
    rw [if_neg (by rw [h1]; decide), if_pos h2]
    simp [hb]
  · have h1 : backB.isPrefixOf ([98, 97, 99, 107, 32] ++ hexD x.l) = true := rfl
    simp only [if_true]
    rw [if_pos h1]
    simp [hb]
theorem outT_outD {s : List UInt8} {b : Bool} {l : List UInt8} (h : outD s = some (b, l)) : outT ⟨b, l⟩ = s := by
  unfold outD at h
  split at h
  · rename_i hp
    obtain ⟨t, rfl⟩ := List.isPrefixOf_iff_prefix.1 hp
    cases hb : bytesD ((backB ++ t).drop 5) with
    | none => rw [hb] at h; cases h
    | some m =>
      rw [hb] at h
      simp only [Option.map_some, Option.some.injEq, Prod.mk.injEq] at h
      obtain ⟨rfl, rfl⟩ := h
      unfold outT
      rw [hex_bytes hb]
      simp
  · split at h
    · rename_i hp
      obtain ⟨t, rfl⟩ := List.isPrefixOf_iff_prefix.1 hp
      cases hb : bytesD ((onB ++ t).drop 3) with
      | none => rw [hb] at h; cases h
      | some m =>
        rw [hb] at h
        simp only [Option.map_some, Option.some.injEq, Prod.mk.injEq] at h
        obtain ⟨rfl, rfl⟩ := h
        unfold outT
        rw [hex_bytes hb]
        simp
    · cases h
/-- texts by their lines -/
theorem index_no (c : UInt8) (l : List UInt8) (h : c ∉ l) : Lib.index l [c] = -1 := by
  refine Lib.index_none (fun j hj => ?_)
  rw [← Bool.not_eq_true]
  intro ho
  apply h
  unfold Lib.occAt at ho
  cases hd : l.drop j with
  | nil => rw [hd] at ho; simp [List.isPrefixOf] at ho
  | cons x r =>
    rw [hd] at ho
    simp only [List.isPrefixOf, Bool.and_true, beq_iff_eq] at ho
    rw [ho]
    exact List.mem_of_mem_drop (by rw [hd]; exact List.mem_cons_self)
theorem cut10 (a r : List UInt8) (ha : (10 : UInt8) ∉ a) : Lib.cut (a ++ 10 :: r) [10] = (a, r, true) := by
  unfold Lib.cut
  rw [index_clean 10 r a ha]
  simp
theorem cut10_no (a : List UInt8) (ha : (10 : UInt8) ∉ a) : (Lib.cut a [10]).2.2 = false := by
  unfold Lib.cut
  rw [index_no 10 a ha]
  simp
theorem byLines {P : List UInt8 → Prop} (h0 : P []) (h1 : ∀ a, a ≠ [] → (10 : UInt8) ∉ a → P a) (h2 : ∀ a r, (10 : UInt8) ∉ a → P r → P (a ++ 10 :: r)) : ∀ s, P s := by
  intro s
  obtain ⟨n, hn⟩ : ∃ n, n = s.length := ⟨_, rfl⟩
  induction n using Nat.strongRecOn generalizing s with
  | ind n ih =>
    by_cases hm : (10 : UInt8) ∈ s
    · obtain ⟨a, r, rfl, ha⟩ := List.eq_append_cons_of_mem hm
      exact h2 a r ha (ih r.length (by rw [hn]; simp; omega) r rfl)
    · by_cases hs : s = []
      · rw [hs]; exact h0
      · exact h1 s hs hm
def parseT (L : List TStep) (n : Nat) (s : List UInt8) : List TStep × Nat × Int := parseF (s.length + 1) L n s
theorem parseT_nil (L : List TStep) (n : Nat) : parseT L n [] = (L, n, 0) := by
  unfold parseT
  rw [parseF, if_pos rfl]
theorem parseT_open (L : List TStep) (n : Nat) (a : List UInt8) (h0 : a ≠ []) (ha : (10 : UInt8) ∉ a) : parseT L n a = ([], n, 10) := by
  unfold parseT
  have hc := cut10_no a ha
  rcases hq : Lib.cut a [10] with ⟨x, y, z⟩
  rw [hq] at hc
  dsimp only at hc
  subst hc
  rw [parseF, if_neg h0, hq]
theorem parseT_line (L : List TStep) (n : Nat) (a r : List UInt8) (ha : (10 : UInt8) ∉ a) : parseT L n (a ++ 10 :: r) = match lineT L a with
    | none => ([], n, 10)
    | some L' => parseT L' (n + 1) r := by
  unfold parseT
  rw [parseF, if_neg (by simp), cut10 a r ha]
  dsimp only
  cases h : lineT L a with
  | none => rfl
  | some L' => exact parseF_more _ _ _ _ _ (by simp; omega) (by omega)
/-- steps' text parsed -/
def Small (x : TStep) : Prop := codeT x = 0 ∧ (-1000000000000000000 < x.n ∧ x.n < 1000000000000000000) ∧ (-1000000000000000000 < x.kp ∧ x.kp < 1000000000000000000)
theorem goneB_no10 : (10 : UInt8) ∉ goneB := by decide
theorem outD_gone : outD goneB = none := rfl
theorem parse_outs : ∀ (O : List TOut) (L : List TStep) (x : TStep) (n : Nat) (r : List UInt8), x.cr = false → parseT (L ++ [x]) n (outsT O ++ r) = parseT (L ++ [{ x with outs := x.outs ++ O }]) (n + O.length) r
  | [], L, x, n, r, _ => by simp [outsT]
  | o :: O, L, x, n, r, h => by
    have e : outsT (o :: O) ++ r = outT o ++ 10 :: (outsT O ++ r) := by simp [outsT]
    rw [e, parseT_line _ _ _ _ (outT_no10 o), lineT_out (outD_outT o), if_neg (by rw [h]; decide)]
    dsimp only
    rw [parse_outs O L { x with outs := x.outs ++ [⟨o.back, o.l⟩] } (n + 1) r h]
    simp only [List.append_assoc, List.cons_append, List.nil_append, List.length_cons]
    rw [show n + 1 + O.length = n + (O.length + 1) from by omega]
theorem lineT_small {L : List TStep} {x : TStep} (h : Small x) : lineT L (evT x.k x.n x.kp x.l).1 = some (L ++ [⟨x.k, x.n, x.kp, x.l, [], false⟩]) := by
  obtain ⟨h1, h2, h3⟩ := ev_read h.1 h.2.1 h.2.2
  rw [lineT_ev h2 h3, h1]
theorem parse_step (L : List TStep) (x : TStep) (n : Nat) (r : List UInt8) (h : Small x) : parseT L n (stepT x ++ r) = parseT (L ++ [x]) (n + (1 + x.outs.length + (if x.cr then 1 else 0))) r := by
  have e : stepT x ++ r = (evT x.k x.n x.kp x.l).1 ++ 10 :: (outsT x.outs ++ (goneT x.cr ++ r)) := by simp [stepT]
  rw [e, parseT_line _ _ _ _ (evT_no10 x.k x.n x.kp x.l), lineT_small h]
  dsimp only
  rw [parse_outs x.outs L ⟨x.k, x.n, x.kp, x.l, [], false⟩ (n + 1) _ rfl]
  simp only [List.nil_append]
  obtain ⟨k, nn, kp, l, outs, cr⟩ := x
  cases cr
  · simp only [goneT, Bool.false_eq_true, if_false, List.nil_append]
    congr 1
    omega
  · have e2 : goneT true ++ r = goneB ++ 10 :: r := rfl
    rw [e2, parseT_line _ _ _ _ goneB_no10, lineT_gone outD_gone rfl]
    simp only [Bool.false_eq_true, if_false, if_true]
    congr 1
    omega
theorem parse_steps : ∀ (M L : List TStep) (n : Nat) (r : List UInt8), (∀ x ∈ M, Small x) → parseT L n (stepsT M ++ r) = parseT (L ++ M) (n + wantT M) r
  | [], L, n, r, _ => by simp [stepsT, wantT]
  | x :: M, L, n, r, h => by
    have e : stepsT (x :: M) ++ r = stepT x ++ (stepsT M ++ r) := by simp [stepsT]
    rw [e, parse_step L x n _ (h x (by simp)), parse_steps M _ _ r (fun y hy => h y (List.mem_cons_of_mem _ hy))]
    simp only [List.append_assoc, List.cons_append, List.nil_append]
    congr 1
    simp only [wantT, List.map_cons, List.sum_cons]
    omega
theorem parse_format {L : List TStep} (h : ∀ x ∈ L, Small x) : parseT [] 0 (stepsT L) = (L, wantT L, 0) := by
  have := parse_steps L [] 0 [] h
  rw [List.append_nil, parseT_nil] at this
  rw [this]
  simp
/-- what is parsed has that text -/
theorem line_back {L L' : List TStep} {a : List UInt8} (h : lineT L a = some L') (hL : ∀ x ∈ L, Small x) : stepsT L' = stepsT L ++ (a ++ [10]) ∧ ∀ x ∈ L', Small x := by
  have hsp : ∀ {x z : TStep} {t : List UInt8}, L.getLast? = some x → stepT z = stepT x ++ t → Small z → stepsT (L.dropLast ++ [z]) = stepsT L ++ t ∧ ∀ y ∈ L.dropLast ++ [z], Small y := by
    intro x z t hx hz hs
    have e : L = L.dropLast ++ [x] := by
      have hne : L ≠ [] := by intro e; rw [e] at hx; cases hx
      have := List.dropLast_concat_getLast hne
      rw [List.getLast?_eq_some_getLast hne] at hx
      injection hx with hx
      rw [hx] at this
      exact this.symm
    refine ⟨?_, fun y hy => ?_⟩
    · conv => rhs; rw [e]
      simp [stepsT, hz]
    · rcases List.mem_append.1 hy with h | h
      · exact hL y (List.dropLast_subset L h)
      · rw [List.mem_singleton.1 h]; exact hs
  unfold lineT at h
  split at h
  · rename_i b l ho
    split at h
    · cases h
    · rename_i x hx
      split at h
      · cases h
      · rename_i hc
        injection h with h
        subst h
        have hcr : x.cr = false := by simpa using hc
        refine hsp hx ?_ (hL x (List.mem_of_getLast? hx))
        rw [← outT_outD ho]
        simp [stepT, outsT, hcr, goneT]
  · split at h
    · rename_i hg
      split at h
      · cases h
      · rename_i x hx
        split at h
        · cases h
        · rename_i hc
          injection h with h
          subst h
          have hcr : x.cr = false := by simpa using hc
          refine hsp hx ?_ (hL x (List.mem_of_getLast? hx))
          rw [hg]
          simp [stepT, hcr, goneT]
    · split at h
      · cases h
      · rename_i k n kp l hr
        injection h with h
        subst h
        obtain ⟨h1, h2, h3, h4, h5⟩ := read_ev hr
        refine ⟨?_, fun y hy => ?_⟩
        · simp [stepsT, stepT, h1, outsT, goneT]
        · rcases List.mem_append.1 hy with h | h
          · exact hL y h
          · rw [List.mem_singleton.1 h]
            exact ⟨by simp [codeT, h1], ⟨h2, h3⟩, ⟨h4, h5⟩⟩
theorem parse_back : ∀ (s : List UInt8) (L M : List TStep) (n k : Nat) (e : Int), parseT L n s = (M, k, e) → (∀ x ∈ L, Small x) → (e = 0 ∧ stepsT M = stepsT L ++ s ∧ ∀ x ∈ M, Small x) ∨ (e = 10 ∧ M = []) := by
  refine byLines ?_ ?_ ?_
  · intro L M n k e h hL
    rw [parseT_nil] at h
    simp only [Prod.mk.injEq] at h
    obtain ⟨rfl, rfl, rfl⟩ := h
    exact .inl ⟨rfl, by simp, hL⟩
  · intro a h0 ha L M n k e h hL
    rw [parseT_open L n a h0 ha] at h
    simp only [Prod.mk.injEq] at h
    obtain ⟨rfl, rfl, rfl⟩ := h
    exact .inr ⟨rfl, rfl⟩
  · intro a r ha ih L M n k e h hL
    rw [parseT_line L n a r ha] at h
    cases hl : lineT L a with
    | none =>
      rw [hl] at h
      simp only [Prod.mk.injEq] at h
      obtain ⟨rfl, rfl, rfl⟩ := h
      exact .inr ⟨rfl, rfl⟩
    | some L' =>
      rw [hl] at h
      obtain ⟨h1, h2⟩ := line_back hl hL
      rcases ih L' M (n + 1) k e h h2 with ⟨q1, q2, q3⟩ | q
      · refine .inl ⟨q1, ?_, q3⟩
        rw [q2, h1]
        simp
      · exact .inr q
/-- the steps that are parsed of a text are no more than it -/
theorem evT_long {k n kp : Int} {l : List UInt8} (h : (evT k n kp l).2 = 0) : l.length ≤ (evT k n kp l).1.length := by
  have h2 : 2 * l.length ≤ (hexD l).length ∨ l = [] := by
    unfold hexD
    by_cases e : l = []
    · exact .inr e
    · rw [if_neg e, flat_len]; exact .inl (Nat.le_refl _)
  unfold evT at h ⊢
  split
  · rename_i e; rw [if_pos e] at h; exact absurd h (by decide)
  · rename_i e1
    rw [if_neg e1] at h
    split
    · rename_i e; rw [if_pos e] at h; exact absurd h (by decide)
    · rename_i e2
      rw [not_or] at e2
      rcases h2 with h2 | h2
      · by_cases hr : (rowF k.toNat).1 = true
        · rw [if_pos hr]
          simp only [List.length_append, List.length_cons]
          omega
        · have := e2.1
          rw [not_and] at this
          have := Classical.not_not.1 (this (by simpa using hr))
          rw [this]; simp
      · rw [h2]; simp
theorem outsT_long (L : List TOut) : sumO L ≤ (outsT L).length := by
  induction L with
  | nil => simp [sumO]
  | cons a r ih =>
    have h2 : a.l.length ≤ (hexD a.l).length := by
      unfold hexD
      by_cases e : a.l = []
      · rw [e]; simp
      · rw [if_neg e, flat_len]; omega
    simp only [outsT, sumO, List.map_cons, List.sum_cons, List.flatMap_cons, List.length_append, List.length_cons, List.length_nil] at ih ⊢
    have : a.l.length ≤ (outT a).length := by unfold outT; simp only [List.length_append]; omega
    omega
theorem stepsT_long {L : List TStep} (h : ∀ x ∈ L, Small x) : sumG L ≤ (stepsT L).length := by
  induction L with
  | nil => simp [sumG]
  | cons a r ih =>
    have h1 := ih (fun y hy => h y (List.mem_cons_of_mem _ hy))
    have h2 := evT_long (h a (by simp)).1
    have h3 := outsT_long a.outs
    simp only [sumG, stepsT, List.map_cons, List.sum_cons, List.flatMap_cons, List.length_append, stepT, List.length_cons, List.length_nil] at h1 ⊢
    omega
theorem fits_of {L : List TStep} (h : ∀ x ∈ L, Small x) (hg : sumG L ≤ 1000000) : ∀ x ∈ L, x.Fits := by
  intro x hx
  have h1 := sumG_mem hx
  have h2 := h x hx
  have h3 := len_sumO x.outs
  exact ⟨⟨by have := h2.2.1; omega, by have := h2.2.1; omega⟩, ⟨by have := h2.2.2; omega, by have := h2.2.2; omega⟩, by omega, by omega, fun o ho => by have := sumO_mem ho; omega⟩
theorem fmtD_two (L : List TStep) : (∃ x, fmtD L = ([], x) ∧ x ≠ 0) ∨ (fmtD L = (stepsT L, 0) ∧ ∀ x ∈ L, codeT x = 0) := by
  unfold fmtD
  split
  · rename_i x h
    exact .inl ⟨_, rfl, by simpa using List.find?_some h⟩
  · rename_i h
    exact .inr ⟨rfl, fun x hx => by simpa using List.find?_eq_none.1 h x hx⟩
theorem PSt.sts {w : World} {B : Nat} {v : Value} {L : List TStep} (h : PSt w B v L) : ∃ A c, v = .slice A L.length c ∧ Sts w A L.length c L := by
  rcases h with ⟨rfl, rfl⟩ | ⟨L0, x, P0, dv, ov, D, g, cap, rfl, rfl, h⟩
  · exact ⟨none, 0, rfl, rfl, by simp, by simp [maxLen], fun h => by simp at h⟩
  · exact ⟨some ⟨g, 0, none⟩, cap, by simp, by simpa using h.sts⟩
theorem parse_T (s : ByteArray) (w : World) (hs : s.size ≤ 100000000) (hm : MaxLen w) (hr : TRows w) : Calls Tryd.prog 23 #[.string s] w (RetPa w.heap.size (parseT [] 0 s.data.toList) w) := by
  have h := parse_ s w hs hm hr
  unfold parseT
  rwa [show s.data.toList.length = s.size from by simp]
end Go.Proofs.YtnoppnnpennddaaDoor
