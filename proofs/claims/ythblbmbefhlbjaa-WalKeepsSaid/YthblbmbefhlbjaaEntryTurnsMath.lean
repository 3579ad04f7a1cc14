/- Layer 13: what a record tells, and one with a bit turned. -/
import Derived.Test.YthblbmbefhlbjaaEntryAlive
import Derived.Test.YthblbmbefhlbjaaCrcTurns
namespace Go.Proofs.Ythblbmbefhlbjaa
open Go.RowKit

theorem get_parts (P S L b : List UInt8) (hP : P.length = 4) (hS : S.length = 4) (hn : beNum P = L.length) (hok : okLen L.length = true) :
    getErr (P ++ (S ++ (L ++ b))) = if Crc.sum 0 (P ++ L) = beNum S then 0 else 8 := by
  unfold getErr
  have h1 : (P ++ (S ++ (L ++ b))).length = 8 + L.length + b.length := by simp; omega
  have h2 : (P ++ (S ++ (L ++ b))).take 4 = P := by rw [← hP, List.take_left]
  have h3 : (P ++ (S ++ (L ++ b))).drop 4 = S ++ (L ++ b) := by rw [← hP, List.drop_left]
  have h4 : (P ++ (S ++ (L ++ b))).drop 8 = L ++ b := by
    rw [show (8 : Nat) = 4 + 4 from rfl, ← List.drop_drop, h3, ← hS, List.drop_left]
  have h5 : (S ++ (L ++ b)).take 4 = S := by rw [← hS, List.take_left]
  rw [h1, h2, h3, h4, h5, hn, List.take_left, if_neg (by omega), if_neg (by rw [hok]; decide), if_neg (by omega)]
theorem get_parts_get (P S L b : List UInt8) (hP : P.length = 4) (hS : S.length = 4) (hn : beNum P = L.length) (hok : okLen L.length = true) (h : Crc.sum 0 (P ++ L) = beNum S) :
    getErr (P ++ (S ++ (L ++ b))) = 0 ∧ getGet (P ++ (S ++ (L ++ b))) = L ∧ getLen (P ++ (S ++ (L ++ b))) = 8 + L.length := by
  have he := get_parts P S L b hP hS hn hok
  rw [if_pos h] at he
  have h2 : (P ++ (S ++ (L ++ b))).take 4 = P := by rw [← hP, List.take_left]
  have h3 : (P ++ (S ++ (L ++ b))).drop 4 = S ++ (L ++ b) := by rw [← hP, List.drop_left]
  have h4 : (P ++ (S ++ (L ++ b))).drop 8 = L ++ b := by
    rw [show (8 : Nat) = 4 + 4 from rfl, ← List.drop_drop, h3, ← hS, List.drop_left]
  refine ⟨he, ?_, ?_⟩
  · unfold getGet; rw [if_pos he, h2, h4, hn, List.take_left]
  · unfold getLen; rw [if_pos he, h2, hn]
theorem record_parts (l b : List UInt8) : record l ++ b = be4 l.length ++ (be4 (Crc.sum 0 (be4 l.length ++ l)) ++ (l ++ b)) := by
  unfold record
  simp only [List.append_assoc]
theorem record_length (l : List UInt8) : (record l).length = 8 + l.length := by
  unfold record
  simp only [List.length_append, be4_length]
theorem get_record (l b : List UInt8) (hok : okLen l.length = true) : getErr (record l ++ b) = 0 ∧ getGet (record l ++ b) = l ∧ getLen (record l ++ b) = 8 + l.length := by
  have h2 := okLen_yes hok
  rw [record_parts]
  exact get_parts_get _ _ l b (be4_length _) (be4_length _) (beNum_be4 (by omega)) hok (beNum_be4 (Crc.sum_lt _ (by omega))).symm
theorem get_turned (l b : List UInt8) (hok : okLen l.length = true) (q r : Nat) (x : UInt8) (hx : (record l ++ b)[q]? = some x) (hr : r < 8) (h4 : 4 ≤ q) (hq : q < 8 + l.length) :
    getErr ((record l ++ b).set q (x ^^^ UInt8.ofNat (2 ^ r))) = 8 := by
  have h2 := okLen_yes hok
  rw [record_parts] at hx ⊢
  have hs := Crc.sum_lt (s := 0) (be4 l.length ++ l) (by omega)
  have hP : (be4 l.length).length = 4 := rfl
  rw [List.set_append_right _ _ (by rw [hP]; exact h4), hP]
  rw [List.getElem?_append_right (by rw [hP]; exact h4), hP] at hx
  have hS : (be4 (Crc.sum 0 (be4 l.length ++ l))).length = 4 := rfl
  rcases Nat.lt_or_ge (q - 4) 4 with h | h
  · rw [List.set_append_left _ _ (by rw [hS]; exact h)]
    rw [List.getElem?_append_left (by rw [hS]; exact h)] at hx
    have hS' : ((be4 (Crc.sum 0 (be4 l.length ++ l))).set (q - 4) (x ^^^ UInt8.ofNat (2 ^ r))).length = 4 := by rw [List.length_set]; rfl
    rw [get_parts _ _ l b hP hS' (beNum_be4 (by omega)) hok, if_neg]
    intro he
    have h5 := be4_beNum hS'
    rw [← he] at h5
    have := congrArg (fun m : List UInt8 => m[q - 4]?) h5
    simp only [hx, List.getElem?_set_self (show q - 4 < (be4 (Crc.sum 0 (be4 l.length ++ l))).length by rw [hS]; exact h)] at this
    exact xor_pow_ne x hr (Option.some.inj this).symm
  · rw [List.set_append_right _ _ (by rw [hS]; exact h), hS, List.set_append_left _ _ (by omega)]
    rw [List.getElem?_append_right (by rw [hS]; exact h), hS, List.getElem?_append_left (by omega)] at hx
    have hL : (l.set (q - 4 - 4) (x ^^^ UInt8.ofNat (2 ^ r))).length = l.length := List.length_set
    rw [get_parts _ _ _ b hP hS (by rw [hL]; exact beNum_be4 (by omega)) (by rw [hL]; exact hok), if_neg]
    rw [beNum_be4 hs]
    have hset : be4 l.length ++ l.set (q - 4 - 4) (x ^^^ UInt8.ofNat (2 ^ r)) = (be4 l.length ++ l).set (q - 4) (x ^^^ UInt8.ofNat (2 ^ r)) := by
      rw [List.set_append_right _ _ (by rw [hP]; exact h), hP]
    rw [hset]
    have hlx : (be4 l.length ++ l)[q - 4]? = some x := by rw [List.getElem?_append_right (by rw [hP]; exact h), hP]; exact hx
    exact Crc.sum_ne 0 _ _ (8 * (q - 4) + r) 1 List.length_set.symm (by
      rw [Crc.num_set _ (q - 4) x _ hlx, UInt8.toNat_ofNat', Nat.mod_eq_of_lt (two_pow_lt8 hr), Nat.mul_one, Nat.pow_add]) (by omega) (by omega) (by rw [List.length_append, hP]; omega)
end Go.Proofs.Ythblbmbefhlbjaa
