/- The law CrcBursts, walked. -/
import Derived.Test.YtamjcihhilmppaaCrcAlive
import Derived.RegionTactic
import Derived.BigRegion
import Derived.Deep.RegionWith
namespace Go.Proofs.Ytamjcihhilmppaa
open Go.RowKit

theorem bit_at (b j : Nat) (hb : b < 4294967296) : bits BinOp.and IntKind.u32 ((b : Int) / 2 ^ j) 1 = if b.testBit j then 1 else 0 := by
  have hlt : b / 2 ^ j < 4294967296 := Nat.lt_of_le_of_lt (Nat.div_le_self _ _) hb
  rw [show ((b : Int) / 2 ^ j) = ((b / 2 ^ j : Nat) : Int) from by simp, show (1 : Int) = ((1 : Nat) : Int) from rfl, u32_and_nat _ _ hlt (by omega), Nat.and_one_is_mod]
  have : b.testBit j = decide (b / 2 ^ j % 2 = 1) := Nat.testBit_eq_decide_div_mod_eq
  rw [this]
  rcases Nat.mod_two_eq_zero_or_one (b / 2 ^ j) with h | h <;> simp [h]
theorem mod_step (b j : Nat) : b % 2 ^ (j + 1) = if b.testBit j then (b % 2 ^ j) ^^^ 2 ^ j else b % 2 ^ j := by
  apply Nat.eq_of_testBit_eq
  intro i
  have e : (if b.testBit j then (b % 2 ^ j) ^^^ 2 ^ j else b % 2 ^ j).testBit i = ((b % 2 ^ j).testBit i ^^ (b.testBit j && (2 ^ j).testBit i)) := by
    cases b.testBit j <;> simp [Nat.testBit_xor]
  rw [e, Nat.testBit_mod_two_pow, Nat.testBit_mod_two_pow, Nat.testBit_two_pow]
  by_cases h : i = j
  · subst h; simp
  · by_cases h2 : i < j
    · simp [h2, show i < j + 1 from by omega, show ¬ j = i from fun e => h e.symm]
    · simp [h2, show ¬ i < j + 1 from by omega, show ¬ j = i from fun e => h e.symm]
theorem two_pow_lt8 {r : Nat} (hr : r < 8) : 2 ^ r < 256 := (Nat.pow_lt_pow_iff_right (a := 2) (n := r) (m := 8) (by omega)).2 hr
theorem pow_mul_xor (k a b : Nat) : 2 ^ k * (a ^^^ b) = 2 ^ k * a ^^^ 2 ^ k * b := by
  apply Nat.eq_of_testBit_eq
  intro i
  simp only [Nat.testBit_xor, Nat.testBit_two_pow_mul]
  by_cases h : k ≤ i <;> simp [h]
theorem xor_bit (x : UInt8) (r : Nat) (hr : r < 8) : bits BinOp.xor .u8 (x.toNat : Int) ((2 : Int) ^ r % 256) = ((x ^^^ UInt8.ofNat (2 ^ r)).toNat : Int) := by
  have h2 : 2 ^ r < 256 := two_pow_lt8 hr
  rw [show ((2 : Int) ^ r % 256) = ((2 ^ r : Nat) : Int) from by (have e : ((2 : Int) ^ r) = ((2 ^ r : Nat) : Int) := by simp); rw [e]; clear e; generalize 2 ^ r = y at h2; omega, u8_xor_nat _ _ (UInt8.toNat_lt _) h2, UInt8.toNat_xor, UInt8.toNat_ofNat', Nat.mod_eq_of_lt h2]
theorem turn_num {M : List UInt8} {q r K j : Nat} {x : UInt8} {N b : Nat} (hx : M[q]? = some x) (hr : r < 8) (hq : 8 * q + r = K + j) (hN : Crc.num M = N ^^^ 2 ^ K * b) : Crc.num (M.set q (x ^^^ UInt8.ofNat (2 ^ r))) = N ^^^ 2 ^ K * (b ^^^ 2 ^ j) := by
  have h2 : 2 ^ r < 256 := two_pow_lt8 hr
  rw [Crc.num_set M q x _ hx, hN, UInt8.toNat_ofNat', Nat.mod_eq_of_lt h2, ← Nat.pow_add, hq, Nat.xor_assoc, pow_mul_xor, Nat.pow_add]
set_option maxRecDepth 100000 in
set_option maxHeartbeats 1000000 in
theorem crcBursts_not (A : Option Addr) (n c : Nat) (l : List UInt8) (at_ burst : Int) (w : World) (_hB : Bs w A n c l) (hn : 2000 < n ∨ n < 5 ∨ burst = 0) :
    Calls Try.prog 5 #[.slice A n c, .int .i64 at_, .int .u32 burst] w (True_ w) := by
  by_cases h1 : 2000 < n
  · clear hn
    go_enter Try.func5, Try.ntmps5
    go_wp2_with (fail)
    refine (crcAlive w).mono ?_
    rintro e w1 ⟨rfl, hb1⟩
    go_wp2
    go_ret
    exact ⟨rfl, hb1⟩
  · by_cases h2 : n < 5
    · clear hn
      go_enter Try.func5, Try.ntmps5
      go_wp2_with (fail)
      refine (crcAlive w).mono ?_
      rintro e w1 ⟨rfl, hb1⟩
      go_wp2
      go_ret
      exact ⟨rfl, hb1⟩
    · obtain rfl : burst = 0 := by omega
      clear hn
      go_enter Try.func5, Try.ntmps5
      go_wp2_with (fail)
      refine (crcAlive w).mono ?_
      rintro e w1 ⟨rfl, hb1⟩
      go_wp2
      go_ret
      exact ⟨rfl, hb1⟩

set_option maxRecDepth 100000 in
set_option maxHeartbeats 1000000 in
theorem crcBursts_main (A : Option Addr) (n c : Nat) (l : List UInt8) (at_ : Int) (burst : Nat) (w : World) (hB : Bs w A n c l) (h1 : n ≤ 2000) (h2 : 5 ≤ n) (h3 : burst ≠ 0) (h4 : burst < 4294967296) :
    Calls Try.prog 5 #[.slice A n c, .int .i64 at_, .int .u32 (burst : Int)] w (True_ w) := by
  have hmax := hB.nmax
  have HB := Lib.hid hB; clear hB
  have h5 : ((burst : Int) == 0) = false := by simp [h3]
  have d1 : decide ((2000 : Int) < (n : Int)) = false := by simp; omega
  have d2 : decide ((n : Int) < 5) = false := by simp; omega
  obtain ⟨K, hK, eK⟩ := bits_index at_ (8 * (n - 4)) (by omega) (by omega)
  rw [show ((8 * (n - 4) : Nat) : Int) = 8 * ((n : Int) - 4) from by omega] at eK
  have H3 := Lib.hid h3; clear h3
  have tok1 : True := trivial
  go_enter Try.func5, Try.ntmps5
  go_wp2_with (first
    | (at_builtin; have _t := tok1; go_loud ((refine wpList_app rfl (.tmp 32) (.tmp 33) 22 rfl w.heap.size 5 Try.underlying22 byteInfo _ [] rfl (Own.lit 5 w [] (Nat.le_refl _) (by simp [maxLen])) _ n c l rfl (HB.out.alloc _) (by simp; omega) (by simp) ?_; intro v1 w1 hown1 hb1 hg1; have b1 : Below w.heap.size w w1 := ((Below.refl _ _).alloc (Nat.le_refl _) _).trans hb1; clear tok1 hb1 hg1 _t))))
  clear eK
  generalize hL : [] ++ l = L at hown1
  have HL := Lib.hid (show L = l by rw [← hL]; rfl)
  clear hL
  have hlen : L.length = n := by rw [HL.out]; exact HB.out.len
  obtain ⟨g, c2, rfl, hg1, hg2⟩ := hown1.form (by omega)
  rw [hlen] at hown1 ⊢
  have HLen := Lib.hid hlen
  have HO := Lib.hid hown1
  have HB1 := Lib.hid b1
  clear hown1 b1 hlen hg2
  go_loopw [9, 35] (fun _ i wr => ∃ j : Nat, j ≤ 32 ∧ i = .int .i64 j ∧ ∃ M : List UInt8, M.length = n ∧ Crc.num M = Crc.num l ^^^ 2 ^ K * (burst % 2 ^ j) ∧ Own 5 wr w.heap.size (.slice (some ⟨g, 0, none⟩) M.length c2) M ∧ Below w.heap.size w wr) (fun _ i _ => 32 - (intOf i).toNat)
  case atStart => exact ⟨0, Nat.zero_le _, rfl, L, HLen.out, by rw [HL.out]; simp [Nat.mod_one], by rw [HLen.out]; exact HO.out, HB1.out⟩
  case round =>
    obtain ⟨j, hj, rfl, M, hM, hnum, hown, hb⟩ := hrel
    have HNum := Lib.hid hnum
    have HO := Lib.hid hown
    have HB2 := Lib.hid hb
    have HM := Lib.hid hM
    by_cases hlt : j < 32
    · have e0 : IntKind.i64.wrap ((K : Int) + (j : Int)) = (K : Int) + (j : Int) := IntWalk.i64_in _ (by omega)
      obtain ⟨q, r, hqr, hr8⟩ : ∃ q r, 8 * q + r = K + j ∧ r < 8 := ⟨(K + j) / 8, (K + j) % 8, by omega, by omega⟩
      have hq : q < M.length := by omega
      have hcell := hown.cell (List.getElem?_eq_getElem hq)
      have hfr := hown.frozen q
      have hbit := bit_at burst j h4
      have hms := mod_step burst j
      cases ht : burst.testBit j with
      | false =>
        rw [ht] at hbit hms
        simp only [Bool.false_eq_true, if_false] at hbit hms
        have HMS := Lib.hid hms
        clear hnum hown hb hM hms
        go_wp2_with (fail)
        go_roundw
        case rel => exact ⟨j + 1, by omega, by go_num, M, HM.out, by rw [HMS.out]; exact HNum.out, HO.out, HB2.out⟩
        case measure => simp [intOf]; omega
      | true =>
        rw [ht] at hbit hms
        simp only [if_true] at hbit hms
        have HMS := Lib.hid hms
        have HX := Lib.hid (List.getElem?_eq_getElem hq)
        generalize M[q] = x at *
        have e0' := xor_bit x r hr8
        have e1 : ((K : Int) + j) / 8 = (q : Int) := by omega
        have e2 : ((K : Int) + j) % 8 = (r : Int) := by omega
        have e3 : (q : Int) < (n : Int) := by rw [hM] at hq; omega
        have HQ := Lib.hid hq
        have HQR := Lib.hid hqr
        clear hq hqr
        clear hnum hown hb hM hms
        go_wp2_with (fail)
        go_region
        go_wp2_with (fail)
        go_roundw
        case rel =>
          refine ⟨j + 1, by omega, by go_num, M.set q (x ^^^ UInt8.ofNat (2 ^ r)), by rw [List.length_set]; exact HM.out, ?_, ?_, ?_⟩
          · rw [HMS.out]
            exact turn_num HX.out hr8 HQR.out HNum.out
          · rw [List.length_set]
            exact HO.out.store q _
          · exact HB2.out.drew.setCell hg1 _
        case measure => simp [intOf]; omega
    · obtain rfl : j = 32 := by omega
      clear hnum hown hb hM
      have hne := Lib.hid (Crc.sum_ne 0 l M K burst (by rw [HM.out]; exact HB.out.len) (by rw [HNum.out, Nat.mod_eq_of_lt h4]) h4 H3.out (by have := HB.out.len; omega))
      have hX : Bs wr (some ⟨g, 0, none⟩) n c2 M := by
        obtain ⟨A', c', e, hb', _⟩ := HO.out.bs
        injection e with e1 e2 e3
        subst e1 e3
        rw [HM.out] at hb'
        exact hb'
      have HX := Lib.hid hX
      clear hX
      go_wp2_with (fail)
      refine (crcAlive wr).mono ?_
      rintro e w3 ⟨rfl, hb3⟩
      have HX3 := Lib.hid (HX.out.below hb3)
      have hb4 := HB2.out.trans (hb3.mono HB2.out.size)
      have HB4 := Lib.hid hb4
      clear hb3 hb4
      go_wp2_with (fail)
      refine (crcSum _ _ _ _ _ HX3.out).mono ?_
      rintro e w4 ⟨rfl, rfl⟩
      go_wp2_with (fail)
      refine (crcSum A n c l _ (HB.out.below HB4.out)).mono ?_
      rintro e w4 ⟨rfl, rfl⟩
      have hfin : (((Crc.sum 0 M : Nat) : Int) != ((Crc.sum 0 l : Nat) : Int)) = true := by
        rw [bne_iff_ne]
        have := hne.out
        omega
      generalize Crc.sum 0 M = s1 at *
      generalize Crc.sum 0 l = s2 at *
      go_wp2
      go_ret
      exact ⟨rfl, HB4.out⟩

theorem crcBursts_walk (A : Option Addr) (n c : Nat) (l : List UInt8) (at_ burst : Int) (w : World) (hB : Bs w A n c l) (_hR : c ≤ 140737488351232) (_hat : (Lit.int .i64 at_).wf = true) (hcc : (Lit.int .u32 burst).wf = true) :
    Calls Try.prog 5 #[.slice A n c, .int .i64 at_, .int .u32 burst] w (True_ w) := by
  by_cases h : 2000 < n ∨ n < 5 ∨ burst = 0
  · exact crcBursts_not A n c l at_ burst w hB h
  · have hx : 0 ≤ burst ∧ burst ≤ 4294967295 := by simpa [Lit.wf, IntKind.min, IntKind.max, IntKind.signed, IntKind.bits] using hcc
    obtain ⟨b, rfl⟩ := Int.eq_ofNat_of_zero_le hx.1
    exact crcBursts_main A n c l at_ b w hB (by omega) (by omega) (by omega) (by omega)
end Go.Proofs.Ytamjcihhilmppaa
