/- Layer 13: entry's small functions, walked. -/
import Derived.Test.YthblbmbefhlbjaaEntryMath
namespace Go.Proofs.Ythblbmbefhlbjaa
open Go.RowKit

theorem rightLength_yes (n : Int) (w : World) (h1 : 1 ≤ n) (h2 : n ≤ 65536) : Calls Try.prog 61 #[.int .i64 n] w fun e w' => e = .returned (.bool true) ∧ w = w' := by
  have d1 : decide ((1 : Int) ≤ n) = true := by simpa using h1
  have d2 : decide (n ≤ (65536 : Int)) = true := by simpa using h2
  go_enter Try.func61, Try.ntmps61
  go_wp2
  go_ret
  exact ⟨rfl, rfl⟩
theorem rightLength_no (n : Int) (w : World) (h : n < 1 ∨ 65536 < n) : Calls Try.prog 61 #[.int .i64 n] w fun e w' => e = .returned (.bool false) ∧ w = w' := by
  by_cases h1 : n < 1
  · have d1 : decide ((1 : Int) ≤ n) = false := by simp; omega
    clear h
    go_enter Try.func61, Try.ntmps61
    go_wp2
    go_ret
    exact ⟨rfl, rfl⟩
  · have d1 : decide ((1 : Int) ≤ n) = true := by simp; omega
    have d2 : decide (n ≤ (65536 : Int)) = false := by simp; omega
    clear h h1
    go_enter Try.func61, Try.ntmps61
    go_wp2
    go_ret
    exact ⟨rfl, rfl⟩
theorem okLen_yes {n : Nat} (h : okLen n = true) : 1 ≤ n ∧ n ≤ 65536 := by simpa [okLen] using h
theorem okLen_no {n : Nat} (h : okLen n = false) : n < 1 ∨ 65536 < n := by
  simp [okLen] at h
  omega
theorem entrySize_yes (n : Nat) (w : World) (h : okLen n = true) : Calls Try.prog 64 #[.int .i64 (n : Int)] w fun e w' => e = .returned (.int .i64 (8 + (n : Int))) ∧ w = w' := by
  have h1 := okLen_yes h
  have HH := Lib.hid h1
  have b : n ≤ 65536 := h1.2
  clear h1 h
  go_enter Try.func64, Try.ntmps64
  go_wp2_with (fail)
  refine (rightLength_yes n w (by have := HH.out; omega) (by have := HH.out; omega)).mono ?_
  rintro e w' ⟨rfl, rfl⟩
  go_wp2
  go_ret
  exact ⟨rfl, rfl⟩
theorem entrySize_no (n : Int) (w : World) (h : n < 1 ∨ 65536 < n) : Calls Try.prog 64 #[.int .i64 n] w fun e w' => e = .returned (.int .i64 0) ∧ w = w' := by
  have HH := Lib.hid h
  clear h
  go_enter Try.func64, Try.ntmps64
  go_wp2_with (fail)
  refine (rightLength_no n w HH.out).mono ?_
  rintro e w' ⟨rfl, rfl⟩
  go_wp2
  go_ret
  exact ⟨rfl, rfl⟩

theorem entrySumOf (A : Option Addr) (n c : Nat) (l : List UInt8) (B : Option Addr) (m d : Nat) (k : List UInt8) (w : World) (hA : Bs w A n c l) (hB : Bs w B m d k) :
    Calls Try.prog 63 #[.slice A n c, .slice B m d] w fun e w' => e = .returned (.int .u32 (Crc.sum 0 (l ++ k) : Nat)) ∧ w = w' := by
  have HA := Lib.hid hA
  have HB := Lib.hid hB
  have HS := Lib.hid (Crc.sum_append 0 l k)
  clear hA hB
  go_enter Try.func63, Try.ntmps63
  go_wp2_with (fail)
  refine (crcSum A n c l w HA.out).mono ?_
  rintro e w' ⟨rfl, rfl⟩
  go_wp2_with (fail)
  refine (crcUpdate _ B m d k w (Crc.sum_lt _ (by omega)) HB.out).mono ?_
  rintro e w' ⟨rfl, rfl⟩
  go_wp2
  go_ret
  rw [HS.out]
  exact ⟨rfl, rfl⟩

set_option maxRecDepth 100000 in
theorem entryHighest (x : Nat) (w : World) (hx : x < 4294967296) : Calls Try.prog 62 #[.int .u32 (x : Int)] w fun e w' => ∃ p q r s, be4 x = [p, q, r, s] ∧ e = .returned (.agg #[.int .u8 (p.toNat : Int), .int .u8 (q.toNat : Int), .int .u8 (r.toNat : Int), .int .u8 (s.toNat : Int)]) ∧ Below w.heap.size w w' := by
  have HE := Lib.hid (be4_cells x hx)
  go_enter Try.func62, Try.ntmps62
  go_wp2
  refine bodyPost_ret (v := .agg #[Value.int .u8 ((x : Int) / 16777216), .int .u8 ((x : Int) / 65536 % 256), .int .u8 ((x : Int) / 256 % 256), .int .u8 ((x : Int) % 256)]) (by simp [results, Try.results62, go_sem]) rfl ⟨_, _, _, _, rfl, ?_, (Below.refl _ _).alloc (Nat.le_refl _) _⟩
  rw [HE.out]
  rfl

theorem or_byte (x c : Nat) (hx : x < 16777216) (hc : c < 256) : bits BinOp.or IntKind.u32 ((x : Int) * 256) (c : Int) = ((x * 256 + c : Nat) : Int) := by
  rw [show ((x : Int) * 256) = ((x * 256 : Nat) : Int) from by omega, u32_or_nat _ _ (by omega) (by omega)]
  congr 1
  apply Nat.eq_of_testBit_eq
  intro i
  rw [show x * 256 + c = 2 ^ 8 * x + c from by omega, Nat.testBit_two_pow_mul_add _ (by omega), Nat.testBit_or, show x * 256 = 2 ^ 8 * x from by omega, Nat.testBit_two_pow_mul]
  by_cases h : i < 8
  · simp [h, show ¬ 8 ≤ i from by omega]
  · have : Nat.testBit c i = false := Nat.testBit_lt_two_pow (Nat.lt_of_lt_of_le hc (by
      have : 2 ^ 8 ≤ 2 ^ i := Nat.pow_le_pow_right (by omega) (by omega)
      simpa using this))
    simp [h, this, show 8 ≤ i from by omega]

set_option maxRecDepth 100000 in
theorem entryNumber (A : Option Addr) (c : Nat) (l : List UInt8) (w : World) (hB : Bs w A 4 c l) :
    Calls Try.prog 72 #[.slice A 4 c] w fun e w' => e = .returned (.int .u32 (beNum l : Nat)) ∧ w = w' := by
  have HB := Lib.hid hB; clear hB
  go_enter Try.func72, Try.ntmps72
  go_wp2_with (fail)
  go_loop [3, 5, 8] (fun x _ k => ∃ m : Nat, m ≤ 4 ∧ k = .int .i64 m ∧ x = .int .u32 (beNum (l.take m) : Nat)) (fun _ _ k => 4 - (intOf k).toNat)
  case atStart => exact ⟨0, Nat.zero_le _, rfl, rfl⟩
  case round =>
    obtain ⟨m, hm, rfl, rfl⟩ := hrel
    by_cases hlt : m < 4
    · obtain ⟨b, o, rfl, hb, hc⟩ := HB.out.at_ (by omega)
      have hml : m < l.length := by have := HB.out.len; omega
      have hcell := hc m _ (List.getElem?_eq_getElem hml)
      have hlt3 : beNum (l.take m) < 16777216 := Nat.lt_of_lt_of_le (beNum_lt _) (by
        have : (l.take m).length ≤ 3 := by rw [List.length_take]; omega
        have h := Nat.pow_le_pow_right (n := 256) (by omega) this
        simpa using h)
      have HC := Lib.hid (beNum_snoc (l.take m) l[m])
      have HT := Lib.hid (List.take_succ_eq_append_getElem hml)
      generalize l[m] = d at *
      generalize beNum (l.take m) = x at *
      have hd := d.toNat_lt
      have h2 := or_byte x d.toNat hlt3 hd
      clear hc
      go_wp2_with (fail)
      go_round
      case rel =>
        refine ⟨m + 1, by omega, by go_num, ?_⟩
        rw [HT.out, HC.out]
        congr 1
      case measure => simp [intOf]; omega
    · obtain rfl : m = 4 := by omega
      have hl2 : l.take 4 = l := List.take_of_length_le (by have := HB.out.len; omega)
      rw [hl2]
      clear hl2
      go_wp2
      go_ret
      exact ⟨rfl, rfl⟩
end Go.Proofs.Ythblbmbefhlbjaa
