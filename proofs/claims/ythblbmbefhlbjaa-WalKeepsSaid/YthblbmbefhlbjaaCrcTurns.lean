/- The law CrcTurns, walked. -/
import Derived.Test.YthblbmbefhlbjaaCrcOpen
import Derived.Test.YthblbmbefhlbjaaCrcBursts
namespace Go.Proofs.Ythblbmbefhlbjaa
open Go.RowKit

theorem be4_inj {x y : Nat} (hx : x < 4294967296) (hy : y < 4294967296) (h : be4 x = be4 y) : x = y := by
  have h' : (be4 x).map UInt8.toNat = (be4 y).map UInt8.toNat := by rw [h]
  simp [be4] at h'
  omega
theorem open_sealed (l : List UInt8) : openOk (l ++ be4 (Crc.sum 0 l)) = true ∧ openGet (l ++ be4 (Crc.sum 0 l)) = l := by
  have e : (l ++ be4 (Crc.sum 0 l)).length - 4 = l.length := by rw [List.length_append, be4_length]; omega
  have h : openOk (l ++ be4 (Crc.sum 0 l)) = true := by
    unfold openOk
    rw [e, List.take_left, List.drop_left, decide_eq_true (by rw [List.length_append, be4_length]; omega)]
    simp
  exact ⟨h, by unfold openGet; rw [if_pos h, e, List.take_left]⟩
theorem xor_pow_ne (x : UInt8) {r : Nat} (hr : r < 8) : x ^^^ UInt8.ofNat (2 ^ r) ≠ x := by
  intro e
  have h := congrArg UInt8.toNat e
  rw [UInt8.toNat_xor, UInt8.toNat_ofNat', Nat.mod_eq_of_lt (two_pow_lt8 hr)] at h
  have h2 := congrArg (fun y => x.toNat ^^^ y) h
  simp only [Crc.xor_cancel, Nat.xor_self] at h2
  have := Nat.two_pow_pos r
  omega
theorem open_turned (l : List UInt8) (q r : Nat) (x : UInt8) (hx : (l ++ be4 (Crc.sum 0 l))[q]? = some x) (hr : r < 8) : openOk ((l ++ be4 (Crc.sum 0 l)).set q (x ^^^ UInt8.ofNat (2 ^ r))) = false ∧ openGet ((l ++ be4 (Crc.sum 0 l)).set q (x ^^^ UInt8.ofNat (2 ^ r))) = [] := by
  have hs := Crc.sum_lt (s := 0) l (by omega)
  have h : openOk ((l ++ be4 (Crc.sum 0 l)).set q (x ^^^ UInt8.ofNat (2 ^ r))) = false := by
    unfold openOk
    have e : ((l ++ be4 (Crc.sum 0 l)).set q (x ^^^ UInt8.ofNat (2 ^ r))).length - 4 = l.length := by rw [List.length_set, List.length_append, be4_length]; omega
    rw [e]
    rw [Bool.and_eq_false_iff]
    right
    rw [beq_eq_false_iff_ne]
    intro heq
    rcases Nat.lt_or_ge q l.length with hq | hq
    · rw [List.set_append_left _ _ hq] at heq
      have e1 : (l.set q (x ^^^ UInt8.ofNat (2 ^ r))).length = l.length := List.length_set
      rw [← e1, List.take_left, List.drop_left] at heq
      have hlx : l[q]? = some x := by rw [List.getElem?_append_left hq] at hx; exact hx
      have h2 := Crc.sum_ne 0 l (l.set q (x ^^^ UInt8.ofNat (2 ^ r))) (8 * q + r) 1 e1.symm (by
        rw [Crc.num_set l q x _ hlx, UInt8.toNat_ofNat', Nat.mod_eq_of_lt (two_pow_lt8 hr), Nat.mul_one, Nat.pow_add]) (by omega) (by omega) (by omega)
      exact h2 (be4_inj (Crc.sum_lt _ (by omega)) hs heq)
    · rw [List.set_append_right _ _ hq, List.take_left, List.drop_left] at heq
      rw [List.getElem?_append_right hq] at hx
      have := congrArg (fun m : List UInt8 => m[q - l.length]?) heq
      have hlt : q - l.length < (be4 (Crc.sum 0 l)).length := (List.getElem?_eq_some_iff.1 hx).1
      simp only [hx, List.getElem?_set_self hlt] at this
      exact xor_pow_ne x hr (Option.some.inj this).symm
  exact ⟨h, by unfold openGet; rw [if_neg (by rw [h]; decide)]⟩

end Go.Proofs.Ythblbmbefhlbjaa
