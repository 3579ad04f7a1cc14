/- Layer 1: crc's sums, walked. -/
import Derived.Test.YtolomfdommnklaaBase
import Derived.Test.YtolomfdommnklaaCrcMath
namespace Go.Proofs.Ytolomfdommnklaa
open Go.RowKit

theorem it_snoc (n : Nat) (x : Nat) : Crc.it (n + 1) x = Crc.step (Crc.it n x) := Crc.it_add n 1 x

set_option maxRecDepth 100000 in
theorem crcRow (i : Nat) (w : World) (hi : i < 256) : Calls Try.prog 103 #[.int .u8 (i : Int)] w fun e w' => e = .returned (.int .u32 (Crc.row i : Nat)) ∧ w = w' := by
  go_enter Try.func103, Try.ntmps103
  go_wp2
  go_loop [3, 6] (fun x k => ∃ n : Nat, n ≤ 8 ∧ k = .int .i64 n ∧ x = .int .u32 (Crc.it n i : Nat)) (fun _ k => 8 - (intOf k).toNat)
  case atStart => exact ⟨0, Nat.zero_le _, rfl, rfl⟩
  case round =>
    obtain ⟨n, hn, rfl, rfl⟩ := hrel
    have hl : Crc.it n i < 4294967296 := Crc.it_lt n (by omega)
    have HS := Lib.hid (it_snoc n i)
    generalize hxx : Crc.it n i = x at *
    have HX := Lib.hid hxx; clear hxx
    by_cases hlt : n < 8
    · go_wp2
      all_goals
        go_round
        case rel =>
          refine ⟨n + 1, by omega, by go_num, ?_⟩
          rw [HS.out]
          unfold Crc.step
          have hx := Lib.hid trivial
          first
          | (rw [if_pos (by have : (((x : Int) % 2) == 1) = true := by assumption
                            have := beq_iff_eq.1 this; omega)]
             rw [show (3988292384 : Int) = ((3988292384 : Nat) : Int) from rfl, show (x : Int) / 2 = ((x / 2 : Nat) : Int) from by omega, u32_xor_nat _ _ (by omega) (by omega)])
          | (rw [if_neg (by have : (((x : Int) % 2) == 1) = false := by assumption
                            have := beq_eq_false_iff_ne.1 this; omega)]
             rw [show (x : Int) / 2 = ((x / 2 : Nat) : Int) from by omega])
        case measure => simp [intOf]; omega
    · obtain rfl : n = 8 := by omega
      go_wp2
      go_ret
      rw [← HX.out]
      exact ⟨rfl, rfl⟩

theorem u32_not (s : Nat) (hs : s < 4294967296) : bits BinOp.xor IntKind.u32 IntKind.u32.max (s : Int) = ((4294967295 ^^^ s : Nat) : Int) := by
  rw [show IntKind.u32.max = ((4294967295 : Nat) : Int) from by decide]
  exact u32_xor_nat _ _ (by omega) hs

set_option maxRecDepth 100000 in
theorem crcUpdate (s : Nat) (A : Option Addr) (n c : Nat) (l : List UInt8) (w : World) (hs : s < 4294967296) (hB : Bs w A n c l) :
    Calls Try.prog 95 #[.int .u32 (s : Int), .slice A n c] w fun e w' => e = .returned (.int .u32 (Crc.sum s l : Nat)) ∧ w = w' := by
  have hn := hB.nmax
  have HB := Lib.hid hB; clear hB
  have h1 := u32_not s hs
  go_enter Try.func95, Try.ntmps95
  go_wp2_with (fail)
  clear h1
  go_loop [5, 7, 12] (fun x _ k => ∃ m : Nat, m ≤ n ∧ k = .int .i64 m ∧ x = .int .u32 (Crc.upd (4294967295 ^^^ s) (l.take m) : Nat)) (fun _ _ k => n - (intOf k).toNat)
  case atStart => exact ⟨0, Nat.zero_le _, rfl, rfl⟩
  case round =>
    obtain ⟨m, hm, rfl, rfl⟩ := hrel
    have hl : Crc.upd (4294967295 ^^^ s) (l.take m) < 4294967296 := Crc.upd_lt _ (Nat.xor_lt_two_pow (n := 32) (by omega) (by omega))
    by_cases hlt : m < n
    · obtain ⟨b, o, rfl, hb, hc⟩ := HB.out.at_ (by omega)
      have hml : m < l.length := by have := HB.out.len; omega
      have hcell := hc m _ (List.getElem?_eq_getElem hml)
      have HC := Lib.hid (Crc.upd_snoc (4294967295 ^^^ s) (l.take m) l[m])
      have HT := Lib.hid (List.take_succ_eq_append_getElem hml)
      generalize l[m] = d at *
      generalize Crc.upd (4294967295 ^^^ s) (l.take m) = x at *
      have hd := d.toNat_lt
      have hxd : (x % 256) ^^^ d.toNat < 256 := Nat.xor_lt_two_pow (n := 8) (by omega) (by omega)
      have hr : Crc.row ((x % 256) ^^^ d.toNat) < 4294967296 := Crc.row_lt (by omega)
      have h2 : bits BinOp.xor IntKind.u8 ((x : Int) % 256) (d.toNat : Int) = (((x % 256) ^^^ d.toNat : Nat) : Int) := by
        rw [show ((x : Int) % 256) = ((x % 256 : Nat) : Int) from by omega]
        exact u8_xor_nat _ _ (by omega) hd
      have HR := Lib.hid (crcRow _ w hxd)
      have h3 : bits BinOp.xor IntKind.u32 ((Crc.row ((x % 256) ^^^ d.toNat) : Nat) : Int) ((x : Int) / 256) = ((Crc.row ((x % 256) ^^^ d.toNat) ^^^ (x / 256) : Nat) : Int) := by
        rw [show ((x : Int) / 256) = ((x / 256 : Nat) : Int) from by omega]
        exact u32_xor_nat _ _ hr (by omega)
      generalize Crc.row ((x % 256) ^^^ d.toNat) = r at *
      generalize (x % 256) ^^^ d.toNat = y at *
      clear hc hxd hr hd hl
      go_wp2_with (go_at_call 103; refine (HR.out).mono ?_; rintro e w' ⟨rfl, rfl⟩)
      go_round
      case rel =>
        refine ⟨m + 1, by omega, by go_num, ?_⟩
        rw [HT.out, HC.out]
      case measure => simp [intOf]; omega
    · obtain rfl : m = n := by omega
      have hl2 : l.take m = l := List.take_of_length_le (by have := HB.out.len; omega)
      rw [hl2] at hl ⊢
      clear hl2
      have h4 := u32_not _ hl
      go_wp2
      go_ret
      exact ⟨rfl, rfl⟩

theorem crcSum (A : Option Addr) (n c : Nat) (l : List UInt8) (w : World) (hB : Bs w A n c l) :
    Calls Try.prog 75 #[.slice A n c] w fun e w' => e = .returned (.int .u32 (Crc.sum 0 l : Nat)) ∧ w = w' := by
  have HB := Lib.hid hB; clear hB
  go_enter Try.func75, Try.ntmps75
  go_wp2_with (fail)
  refine (crcUpdate 0 A n c l w (by omega) HB.out).mono ?_
  rintro e w' ⟨rfl, rfl⟩
  go_wp2
  go_ret
  exact ⟨rfl, rfl⟩
end Go.Proofs.Ytolomfdommnklaa
