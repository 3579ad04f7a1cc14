/- Layer 6: the bytes that may be signs, signs as a row, the common signs, walked. -/
import Derived.Test.YtgffamdlnacamaaDoorBase
import Derived.Test.YtgffamdlnacamaaDoorLater
import Derived.Test.YtgffamdlnacamaaDoorSgn
import Derived.Lib.Bytealg
import Derived.Laws.Externs
import Derived.Laws.StructEq
namespace Go.Proofs.YtgffamdlnacamaaDoor
open Go.RowKit

/-- may a byte be a sign? -/
def isSign (n : Nat) : Bool := decide (33 ≤ n) && decide (n ≤ 126) && !(decide (65 ≤ n) && decide (n ≤ 90)) && !(decide (97 ≤ n) && decide (n ≤ 122)) && !(decide (48 ≤ n) && decide (n ≤ 57))

theorem isSign_yes {n : Nat} (h1 : ¬ n < 33) (h2 : ¬ 126 < n) (h3 : ¬ (65 ≤ n ∧ n ≤ 90)) (h4 : ¬ (97 ≤ n ∧ n ≤ 122)) (h5 : ¬ (48 ≤ n ∧ n ≤ 57)) : isSign n = true := by
  simp [isSign]; omega
theorem isSign_no {n : Nat} (h : n < 33 ∨ 126 < n ∨ (65 ≤ n ∧ n ≤ 90) ∨ (97 ≤ n ∧ n ≤ 122) ∨ (48 ≤ n ∧ n ≤ 57)) : isSign n = false := by
  simp [isSign]; omega

set_option maxRecDepth 100000 in
theorem delimSign (c : Nat) (w : World) : Calls Tryd.prog 64 #[.int .u8 (c : Int)] w fun e w' => e = .returned (.bool (isSign c)) ∧ w = w' := by
  by_cases h1 : (c : Int) < 33
  · rw [isSign_no (by omega)]
    go_enter Tryd.func64, Tryd.ntmps64
    go_wp2
    go_ret
    exact ⟨rfl, rfl⟩
  by_cases h2 : (126 : Int) < c
  · rw [isSign_no (by omega)]
    go_enter Tryd.func64, Tryd.ntmps64
    go_wp2
    go_ret
    exact ⟨rfl, rfl⟩
  by_cases h3 : (65 : Int) ≤ c
  · by_cases h4 : (c : Int) ≤ 90
    · rw [isSign_no (by omega)]
      go_enter Tryd.func64, Tryd.ntmps64
      go_wp2
      go_ret
      exact ⟨rfl, rfl⟩
    · by_cases h5 : (97 : Int) ≤ c
      · by_cases h6 : (c : Int) ≤ 122
        · rw [isSign_no (by omega)]
          go_enter Tryd.func64, Tryd.ntmps64
          go_wp2
          go_ret
          exact ⟨rfl, rfl⟩
        · rw [isSign_yes (by omega) (by omega) (by omega) (by omega) (by omega)]
          have h7 : (48 : Int) ≤ c := by omega
          have h8 : ¬ (c : Int) ≤ 57 := by omega
          go_enter Tryd.func64, Tryd.ntmps64
          go_wp2
          go_ret
          exact ⟨rfl, rfl⟩
      · rw [isSign_yes (by omega) (by omega) (by omega) (by omega) (by omega)]
        have h7 : (48 : Int) ≤ c := by omega
        have h8 : ¬ (c : Int) ≤ 57 := by omega
        go_enter Tryd.func64, Tryd.ntmps64
        go_wp2
        go_ret
        exact ⟨rfl, rfl⟩
  · have h5 : ¬ (97 : Int) ≤ c := by omega
    by_cases h7 : (48 : Int) ≤ c
    · by_cases h8 : (c : Int) ≤ 57
      · rw [isSign_no (by omega)]
        go_enter Tryd.func64, Tryd.ntmps64
        go_wp2
        go_ret
        exact ⟨rfl, rfl⟩
      · rw [isSign_yes (by omega) (by omega) (by omega) (by omega) (by omega)]
        go_enter Tryd.func64, Tryd.ntmps64
        go_wp2
        go_ret
        exact ⟨rfl, rfl⟩
    · rw [isSign_yes (by omega) (by omega) (by omega) (by omega) (by omega)]
      go_enter Tryd.func64, Tryd.ntmps64
      go_wp2
      go_ret
      exact ⟨rfl, rfl⟩


set_option maxRecDepth 100000 in
theorem delimRow (a b c d e : Int) (w : World) : Calls Tryd.prog 63 #[dlm a b c d e] w fun x w' => x = .returned (dlm a b c d e) ∧ Below w.heap.size w w' := by
  go_enter Tryd.func63, Tryd.ntmps63
  go_wp2
  exact bodyPost_ret (v := dlm a b c d e) (by simp [results, Tryd.results63, go_sem]) rfl ⟨rfl, ((Below.refl _ w).alloc (Nat.le_refl _) _).alloc (by simp) _⟩

set_option maxRecDepth 100000 in
theorem delimPlain (w : World) : Calls Tryd.prog 62 #[] w fun x w' => x = .returned (dlm 124 94 126 92 38) ∧ Below w.heap.size w w' := by
  go_enter Tryd.func62, Tryd.ntmps62
  go_wp2
  exact bodyPost_ret (v := dlm 124 94 126 92 38) (by simp [results, Tryd.results62, go_sem]) rfl ⟨rfl, (Below.refl _ w).alloc (Nat.le_refl _) _⟩

set_option maxRecDepth 100000 in
theorem strIndexByte (s : ByteArray) (c : Int) (w : World) : Calls Tryd.prog 65 #[.string s, .int .u8 c] w fun e w' => e = .returned (.int .i64 (Lib.indexByte s.data.toList c.toNat.toUInt8)) ∧ w = w' := by
  go_enter Tryd.func65, Tryd.ntmps65
  go_wp2
  rw [run_callFunc_extern Tryd.func96 (by kernel_rfl) (by kernel_rfl) (by kernel_rfl) (e := Extern.BytealgIndexByte.indexByte) (by kernel_rfl), Lib.run_indexByteString]
  simp only [Result.andThen]
  rw [Oper.upon_value]
  go_wp2
  go_ret
  exact ⟨rfl, rfl⟩
end Go.Proofs.YtgffamdlnacamaaDoor
