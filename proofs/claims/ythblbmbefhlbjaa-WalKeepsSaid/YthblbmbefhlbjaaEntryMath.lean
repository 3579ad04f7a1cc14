/- Layer 13: records, as plain lists. -/
import Derived.Test.YthblbmbefhlbjaaCrcSeal
namespace Go.Proofs.Ythblbmbefhlbjaa
open Go.RowKit

/-- a number of bytes that a record may have -/
def okLen (n : Nat) : Bool := decide (1 ≤ n) && decide (n ≤ 65536)
/-- the record of l -/
def record (l : List UInt8) : List UInt8 := be4 l.length ++ be4 (Crc.sum 0 (be4 l.length ++ l)) ++ l
/-- a number, the highest byte first -/
def beNum (l : List UInt8) : Nat := l.foldl (fun x c => x * 256 + c.toNat) 0
theorem beNum_snoc (l : List UInt8) (c : UInt8) : beNum (l ++ [c]) = beNum l * 256 + c.toNat := by simp [beNum]
theorem beNum_go (l : List UInt8) : ∀ x N : Nat, x < N → l.foldl (fun x c => x * 256 + c.toNat) x < N * 256 ^ l.length := by
  induction l with
  | nil => intro x N h; simpa using h
  | cons c l ih =>
    intro x N h
    have hc := c.toNat_lt
    have h2 := ih (x * 256 + c.toNat) (N * 256) (by omega)
    simp only [List.foldl_cons, List.length_cons, Nat.pow_succ]
    rw [Nat.mul_assoc, Nat.mul_comm 256] at h2
    exact h2
theorem beNum_lt (l : List UInt8) : beNum l < 256 ^ l.length := by
  have := beNum_go l 0 1 (by omega)
  simpa [beNum] using this
theorem beNum_be4 {x : Nat} (hx : x < 4294967296) : beNum (be4 x) = x := by
  simp [beNum, be4]
  omega
theorem be4_beNum {l : List UInt8} (h : l.length = 4) : be4 (beNum l) = l := by
  obtain ⟨p, q, r, s, rfl⟩ := four h
  have b0 := p.toNat_lt
  have b1 := q.toNat_lt
  have b2 := r.toNat_lt
  have b3 := s.toNat_lt
  simp only [beNum, List.foldl, be4, List.cons.injEq, and_true]
  refine ⟨?_, ?_, ?_, ?_⟩ <;> (apply UInt8.toNat_inj.1; simp only [UInt8.toNat_ofNat']; omega)

/-- why there is no record at the head of l; 0: there is one -/
def getErr (l : List UInt8) : Int :=
  if l.length < 8 then 7 else if okLen (beNum (l.take 4)) = false then 9 else if l.length - 8 < beNum (l.take 4) then 7
  else if Crc.sum 0 (l.take 4 ++ (l.drop 8).take (beNum (l.take 4))) = beNum ((l.drop 4).take 4) then 0 else 8
/-- its bytes -/
def getGet (l : List UInt8) : List UInt8 := if getErr l = 0 then (l.drop 8).take (beNum (l.take 4)) else []
/-- how many bytes it has -/
def getLen (l : List UInt8) : Nat := if getErr l = 0 then 8 + beNum (l.take 4) else 0
end Go.Proofs.Ythblbmbefhlbjaa
