/- Layer 6: which signs may be, without the walk. -/
import Derived.Test.YtgffamdlnacamaaDoorDelim2
import Derived.OpenShut
namespace Go.Proofs.YtgffamdlnacamaaDoor
open Go.RowKit

theorem Sgn.good_iff (s : Sgn) : s.good = true ↔ (isSign s.a.toNat = true ∧ isSign s.b.toNat = true ∧ isSign s.c.toNat = true ∧ isSign s.d.toNat = true ∧ isSign s.e.toNat = true) ∧ (s.a ≠ s.b ∧ s.a ≠ s.c ∧ s.a ≠ s.d ∧ s.a ≠ s.e ∧ s.b ≠ s.c ∧ s.b ≠ s.d ∧ s.b ≠ s.e ∧ s.c ≠ s.d ∧ s.c ≠ s.e ∧ s.d ≠ s.e) := by
  simp only [Sgn.good, Sgn.l, goodTo, List.getD_cons_zero, List.getD_cons_succ, List.take_succ_cons, List.take_zero, List.contains_cons, List.contains_nil, Bool.and_eq_true, Bool.not_eq_true', Bool.or_eq_false_iff, beq_eq_false_iff_ne, Bool.or_false, ne_eq]
  constructor
  · rintro ⟨⟨⟨⟨⟨⟨⟨⟨⟨⟨_, s0⟩, _⟩, s1⟩, n1⟩, s2⟩, n2, n3⟩, s3⟩, n4, n5, n6⟩, s4⟩, n7, n8, n9, n10⟩
    refine ⟨⟨s0, s1, s2, s3, s4⟩, ?_⟩
    refine ⟨?_, ?_, ?_, ?_, ?_, ?_, ?_, ?_, ?_, ?_⟩ <;> (intro h; simp_all)
  · rintro ⟨⟨s0, s1, s2, s3, s4⟩, n1, n2, n3, n4, n5, n6, n7, n8, n9, n10⟩
    refine ⟨⟨⟨⟨⟨⟨⟨⟨⟨⟨trivial, s0⟩, ?_⟩, s1⟩, ?_⟩, s2⟩, ?_, ?_⟩, s3⟩, ?_, ?_, ?_⟩, s4⟩, ?_, ?_, ?_, ?_⟩ <;> first | trivial | (intro h; simp_all)
theorem Sgn.good_turn (s : Sgn) : (Sgn.mk s.e s.d s.a s.b s.c).good = s.good := by
  rw [Bool.eq_iff_iff, Sgn.good_iff, Sgn.good_iff]
  constructor
  · rintro ⟨⟨s0, s1, s2, s3, s4⟩, n1, n2, n3, n4, n5, n6, n7, n8, n9, n10⟩
    exact ⟨⟨s2, s3, s4, s1, s0⟩, n8, n9, n5.symm, n2.symm, n10, n6.symm, n3.symm, n7.symm, n4.symm, n1.symm⟩
  · rintro ⟨⟨s0, s1, s2, s3, s4⟩, n1, n2, n3, n4, n5, n6, n7, n8, n9, n10⟩
    exact ⟨⟨s4, s3, s0, s1, s2⟩, n10.symm, n4.symm, n7.symm, n9.symm, n3.symm, n6.symm, n8.symm, n1, n2, n5⟩
theorem Sgn.good_twice (a c d e : UInt8) : (Sgn.mk a a c d e).good = false := by
  cases h : (Sgn.mk a a c d e).good
  · rfl
  · exact absurd rfl ((Sgn.good_iff _).1 h).2.1
theorem Sgn.good_other {a b c d e : UInt8} (h : isSign c.toNat = false) : (Sgn.mk a b c d e).good = false := by
  cases h' : (Sgn.mk a b c d e).good
  · rfl
  · have := ((Sgn.good_iff _).1 h').1.2.2.1
    simp [h] at this
/-- a byte's number, as a byte -/
theorem rows_two (h : Array Obj) (X Y : Obj) : ((h.push X).push Y)[h.size]? = some X ∧ ((h.push X).push Y)[h.size + 1]? = some Y := by
  constructor
  · rw [Array.getElem?_push, if_neg (by simp)]; simp
  · rw [Array.getElem?_push, if_pos (by simp)]
end Go.Proofs.YtgffamdlnacamaaDoor
