/- Layer 7: what is encoded tells what it was. -/
import Derived.Test.YtecmadodpkfnnaaEscMath2
namespace Go.Proofs.Ytecmadodpkfnnaa
open Go.RowKit Go.MapKept

theorem sign_not {s : Sgn} (h : s.good = true) (c : UInt8) (hc : isSign c.toNat = false) : c ≠ s.a ∧ c ≠ s.b ∧ c ≠ s.c ∧ c ≠ s.d ∧ c ≠ s.e := by
  obtain ⟨⟨s0, s1, s2, s3, s4⟩, _⟩ := (Sgn.good_iff s).1 h
  refine ⟨?_, ?_, ?_, ?_, ?_⟩ <;> (rintro rfl; simp_all)
/-- an escape of its own -/
theorem decD_one {s : Sgn} {t u : List UInt8} (h1 : s.d ∉ t) (h2 : insideD s t = some u) : decD s (s.d :: t ++ [s.d]) = .ok u := by
  have hi : ∀ t : List UInt8, s.d ∉ t → Lib.indexByte (t ++ [s.d]) s.d = (t.length : Int) := by
    intro t ht
    induction t with
    | nil => simp [Lib.indexByte]
    | cons b r ih =>
      simp only [List.mem_cons, not_or] at ht
      rw [List.cons_append, Lib.indexByte, if_neg (by simpa using Ne.symm ht.1), ih ht.2, if_neg (by simp), List.length_cons]
      omega
  have hf : firstD s (s.d :: t ++ [s.d]) = some (u, t.length + 2) := by
    unfold firstD
    simp only [List.cons_append, List.drop_succ_cons, List.drop_zero, List.getD_cons_zero]
    rw [hi t h1, if_neg (by omega)]
    simp only [Int.toNat_natCast]
    rw [List.take_left' rfl, h2]
    rfl
  unfold decD
  rw [List.cons_append, List.length_cons, decG, if_neg (by simp)]
  rw [List.cons_append] at hf
  rw [hf]
  simp only
  have : (s.d :: (t ++ [s.d])).drop (t.length + 2) = [] := List.drop_of_length_le (by simp)
  rw [this]
  cases (t ++ [s.d]).length <;> simp [decG, Except.map]
theorem decD_escOf {s : Sgn} (h : s.good = true) (c : UInt8) : decD s (escOf s c) = .ok [c] := by
  unfold escOf escGet
  by_cases hc : c = 11 ∨ c = 13 ∨ c = 28
  · rw [if_pos hc]
    simp only [Option.getD_some]
    have n48 := (sign_not h 48 (by decide)).2.2.2.1
    have n49 := (sign_not h 49 (by decide)).2.2.2.1
    have n66 := (sign_not h 66 (by decide)).2.2.2.1
    have n67 := (sign_not h 67 (by decide)).2.2.2.1
    have n68 := (sign_not h 68 (by decide)).2.2.2.1
    have n88 := (sign_not h 88 (by decide)).2.2.2.1
    rcases hc with rfl | rfl | rfl
    · exact decD_one (s := s) (t := [88, 48, 66]) (by simp [n48.symm, n66.symm, n88.symm]) (by kernel_rfl)
    · exact decD_one (s := s) (t := [88, 48, 68]) (by simp [n48.symm, n68.symm, n88.symm]) (by kernel_rfl)
    · exact decD_one (s := s) (t := [88, 49, 67]) (by simp [n49.symm, n67.symm, n88.symm]) (by kernel_rfl)
  · rw [if_neg hc]
    cases hl : letterOf s c with
    | none =>
      have hd : c ≠ s.d := by
        rintro rfl
        have := letter_of (s := s) h (k := 69) (x := s.d) (by simp [sgB])
        rw [hl] at this
        cases this
      simp only [Option.map_none, Option.getD_none]
      unfold decD
      rw [List.length_cons, decG, if_pos hd]
      rfl
    | some x =>
      simp only [Option.map_some, Option.getD_some]
      have hm := letter_mem hl
      simp only [sgB, List.mem_cons, Prod.mk.injEq, List.not_mem_nil, or_false] at hm
      have n70 := (sign_not h 70 (by decide)).2.2.2.1
      have n83 := (sign_not h 83 (by decide)).2.2.2.1
      have n84 := (sign_not h 84 (by decide)).2.2.2.1
      have n82 := (sign_not h 82 (by decide)).2.2.2.1
      have n69 := (sign_not h 69 (by decide)).2.2.2.1
      rcases hm with ⟨rfl, rfl⟩ | ⟨rfl, rfl⟩ | ⟨rfl, rfl⟩ | ⟨rfl, rfl⟩ | ⟨rfl, rfl⟩
      · exact decD_one (s := s) (t := [70]) (by simp [n70.symm]) (by simp [insideD, signOf])
      · exact decD_one (s := s) (t := [83]) (by simp [n83.symm]) (by simp [insideD, signOf])
      · exact decD_one (s := s) (t := [84]) (by simp [n84.symm]) (by simp [insideD, signOf])
      · exact decD_one (s := s) (t := [82]) (by simp [n82.symm]) (by simp [insideD, signOf])
      · exact decD_one (s := s) (t := [69]) (by simp [n69.symm]) (by simp [insideD, signOf])
theorem decD_enc {s : Sgn} (h : s.good = true) (l : List UInt8) : decD s (encD s l) = .ok l := by
  induction l with
  | nil => rfl
  | cons c r ih =>
    have : encD s (c :: r) = escOf s c ++ encD s r := by simp [encD]
    rw [this, decD_join (decD_escOf h c) ih]
    rfl
/-- the text needs no escapes -/
def cleanB (s : Sgn) (c : UInt8) : Bool := !(c == s.a || c == s.b || c == s.c || c == s.d || c == s.e || c == 11 || c == 13 || c == 28)
def cleanD (s : Sgn) (l : List UInt8) : Bool := l.all (cleanB s)
theorem escOf_clean (s : Sgn) (c : UInt8) (h : cleanB s c = true) : escOf s c = [c] := by
  unfold cleanB at h
  simp only [Bool.not_eq_true', Bool.or_eq_false_iff, beq_eq_false_iff_ne] at h
  obtain ⟨⟨⟨⟨⟨⟨⟨h1, h2⟩, h3⟩, h4⟩, h5⟩, h6⟩, h7⟩, h8⟩ := h
  unfold escOf escGet letterOf
  simp [h1, h2, h3, h4, h5, h6, h7, h8]
theorem escOf_unclean (s : Sgn) (c : UInt8) (h : cleanB s c = false) : 3 ≤ (escOf s c).length := by
  unfold escOf escGet
  by_cases hc : c = 11 ∨ c = 13 ∨ c = 28
  · rw [if_pos hc]; simp [hexStr]
  · rw [if_neg hc]
    cases hl : letterOf s c with
    | some x => simp [escStr]
    | none =>
      exfalso
      unfold letterOf at hl
      unfold cleanB at h
      by_cases h1 : c = s.a
      · simp [h1] at hl
      by_cases h2 : c = s.b
      · rw [if_neg h1, if_pos h2] at hl; cases hl
      by_cases h5 : c = s.e
      · rw [if_neg h1, if_neg h2, if_pos h5] at hl; cases hl
      by_cases h3 : c = s.c
      · rw [if_neg h1, if_neg h2, if_neg h5, if_pos h3] at hl; cases hl
      by_cases h4 : c = s.d
      · rw [if_neg h1, if_neg h2, if_neg h5, if_neg h3, if_pos h4] at hl; cases hl
      · simp only [not_or] at hc
        simp [h1, h2, h3, h4, h5, hc.1, hc.2.1, hc.2.2] at h
theorem encD_clean (s : Sgn) (l : List UInt8) : (encD s l = l) ↔ cleanD s l = true := by
  induction l with
  | nil => simp [encD, cleanD]
  | cons c r ih =>
    have e : encD s (c :: r) = escOf s c ++ encD s r := by simp [encD]
    have e2 : cleanD s (c :: r) = (cleanB s c && cleanD s r) := by simp [cleanD]
    rw [e, e2]
    cases hb : cleanB s c
    · have h1 := escOf_unclean s c hb
      have h2 := (encD_len s r).1
      refine ⟨fun h => ?_, fun h => by simp at h⟩
      have := congrArg List.length h
      rw [List.length_append, List.length_cons] at this
      omega
    · rw [escOf_clean s c hb, Bool.true_and, ← ih]
      simp
/-- what may stand in an encoded text -/
def okB (s : Sgn) (c : UInt8) : Bool := !(c == s.a || c == s.b || c == s.c || c == s.e || c == 11 || c == 13 || c == 28)
theorem okB_letter {s : Sgn} (h : s.good = true) {c : UInt8} (hc : isSign c.toNat = false) (h1 : c ≠ 11) (h2 : c ≠ 13) (h3 : c ≠ 28) : okB s c = true := by
  obtain ⟨n1, n2, n3, n4, n5⟩ := sign_not h c hc
  simp [okB, n1, n2, n3, n5, h1, h2, h3]
theorem sign_ne {c : UInt8} (h : isSign c.toNat = true) : c ≠ 11 ∧ c ≠ 13 ∧ c ≠ 28 := by
  refine ⟨?_, ?_, ?_⟩ <;> (rintro rfl; revert h; decide)
theorem okB_d {s : Sgn} (h : s.good = true) : okB s s.d = true := by
  obtain ⟨n1, n2, n3, n4, n5, n6, n7, n8, n9, n10⟩ := good_parts h
  obtain ⟨⟨_, _, _, s3, _⟩, _⟩ := (Sgn.good_iff s).1 h
  obtain ⟨m1, m2, m3⟩ := sign_ne s3
  simp [okB, n3.symm, n6.symm, n8.symm, n10, m1, m2, m3]
theorem escOf_ok {s : Sgn} (h : s.good = true) (c : UInt8) : (escOf s c).all (okB s) = true := by
  have hd := okB_d h
  cases hb : cleanB s c
  · unfold escOf escGet
    by_cases hc : c = 11 ∨ c = 13 ∨ c = 28
    · rw [if_pos hc]
      have n48 := okB_letter h (c := 48) (by decide) (by decide) (by decide) (by decide)
      have n49 := okB_letter h (c := 49) (by decide) (by decide) (by decide) (by decide)
      have n66 := okB_letter h (c := 66) (by decide) (by decide) (by decide) (by decide)
      have n67 := okB_letter h (c := 67) (by decide) (by decide) (by decide) (by decide)
      have n68 := okB_letter h (c := 68) (by decide) (by decide) (by decide) (by decide)
      have n88 := okB_letter h (c := 88) (by decide) (by decide) (by decide) (by decide)
      rcases hc with rfl | rfl | rfl
      · show List.all [s.d, 88, 48, 66, s.d] (okB s) = true
        simp [hd, n88, n48, n66]
      · show List.all [s.d, 88, 48, 68, s.d] (okB s) = true
        simp [hd, n88, n48, n68]
      · show List.all [s.d, 88, 49, 67, s.d] (okB s) = true
        simp [hd, n88, n49, n67]
    · rw [if_neg hc]
      cases hl : letterOf s c with
      | none =>
        exfalso
        have h1 := escOf_unclean s c hb
        unfold escOf escGet at h1
        rw [if_neg hc, hl] at h1
        simp at h1
      | some x =>
        have hm := letter_mem hl
        have hx : okB s x = true := by
          simp only [sgB, List.mem_cons, Prod.mk.injEq, List.not_mem_nil, or_false] at hm
          rcases hm with ⟨rfl, _⟩ | ⟨rfl, _⟩ | ⟨rfl, _⟩ | ⟨rfl, _⟩ | ⟨rfl, _⟩ <;> exact okB_letter h (by decide) (by decide) (by decide) (by decide)
        simp [escStr, hd, hx]
  · rw [escOf_clean s c hb]
    unfold cleanB at hb
    unfold okB
    simp only [Bool.not_eq_true', Bool.or_eq_false_iff] at hb
    obtain ⟨⟨⟨⟨⟨⟨⟨h1, h2⟩, h3⟩, h4⟩, h5⟩, h6⟩, h7⟩, h8⟩ := hb
    simp only [List.all_cons, List.all_nil, h1, h2, h3, h5, h6, h7, h8]
    rfl
theorem encD_ok {s : Sgn} (h : s.good = true) (l : List UInt8) : (encD s l).all (okB s) = true := by
  induction l with
  | nil => rfl
  | cons c r ih =>
    have : encD s (c :: r) = escOf s c ++ encD s r := by simp [encD]
    rw [this, List.all_append, escOf_ok h, ih]
    rfl
end Go.Proofs.Ytecmadodpkfnnaa
