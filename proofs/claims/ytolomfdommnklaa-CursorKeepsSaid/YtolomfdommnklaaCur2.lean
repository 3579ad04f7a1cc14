/- Layer 15: the number of bytes, walked. -/
import Derived.Test.YtolomfdommnklaaCur1
import Derived.Laws.BitsAllLaws
namespace Go.Proofs.Ytolomfdommnklaa
open Go.RowKit

/-- the number that bytes tell -/
def valD (l : List UInt8) : Nat := l.foldl (fun a b => a * 256 + b.toNat) 0
/-- a file's number, and why there is none -/
def numD (l : List UInt8) : Int × Int :=
  if l.length ≠ 12 then (0, 7) else if openOk l = false then (0, 8) else if 1099511627776 < valD (openGet l) then (0, 3) else ((valD (openGet l) : Int), 0)
theorem valD_app (l : List UInt8) (b : UInt8) : valD (l ++ [b]) = valD l * 256 + b.toNat := by simp [valD]
theorem foldl_lt (l : List UInt8) : ∀ a, l.foldl (fun a b => a * 256 + b.toNat) a < (a + 1) * 256 ^ l.length := by
  induction l with
  | nil => intro a; simp
  | cons b r ih =>
    intro a
    have h1 := ih (a * 256 + b.toNat)
    have h2 := b.toNat_lt
    rw [List.foldl_cons, List.length_cons, Nat.pow_succ]
    refine Nat.lt_of_lt_of_le h1 ?_
    rw [Nat.mul_comm (256 ^ r.length) 256, ← Nat.mul_assoc]
    exact Nat.mul_le_mul_right _ (by omega)
theorem valD_lt (l : List UInt8) : valD l < 256 ^ l.length := by
  have := foldl_lt l 0
  simpa [valD] using this
theorem valD_take {l : List UInt8} {k : Nat} (hk : k < l.length) : valD (l.take (k + 1)) = valD (l.take k) * 256 + (l.getD k 0).toNat := by
  rw [List.take_succ_eq_append_getElem hk, valD_app, List.getD_eq_getElem?_getD, List.getElem?_eq_getElem hk]; rfl
theorem or_low (a b : Nat) (hb : b < 256) : (a * 256) ||| b = a * 256 + b := by
  have := Nat.two_pow_add_eq_or_of_lt (i := 8) (b := b) (by omega) a
  rw [show a * 256 = 2 ^ 8 * a by omega]
  exact this.symm
theorem openGet_len {l : List UInt8} (h : openOk l = true) (hl : l.length = 12) : (openGet l).length = 8 := by
  unfold openGet
  rw [if_pos h, List.length_take]; omega
set_option maxHeartbeats 4000000 in
set_option maxRecDepth 100000 in
theorem curNumber (A : Option Addr) (n c : Nat) (l : List UInt8) (w : World) (hB : Bs w A n c l) (hn : n ≤ 140737488351232) : Calls Try.prog 10 #[.slice A n c] w fun e w' => e = .returned (.tuple #[.int .i64 (numD l).1, .int .i64 (numD l).2]) ∧ Below w.heap.size w w' := by
  have hlen := hB.len
  have HB := Lib.hid hB
  have HND : Hid (numD l = if l.length ≠ 12 then (0, 7) else if openOk l = false then (0, 8) else if 1099511627776 < valD (openGet l) then (0, 3) else ((valD (openGet l) : Int), 0)) := Lib.hid rfl
  clear hB
  go_enter Try.func10, Try.ntmps10
  by_cases h12 : n = 12
  · subst h12
    go_wp2_with (fail)
    refine (crcOpen A 12 c l w HB.out (by decide)).mono ?_
    rintro e w1 ⟨A1, c1, rfl, hB1, hb1⟩
    have HB1 := Lib.hid hb1
    have HBS := Lib.hid hB1
    clear hb1 hB1
    cases hok : openOk l
    · go_wp2_with (fail)
      go_ret2
      rw [HND.out, if_neg (by omega), if_pos hok]
      exact ⟨rfl, HB1.out⟩
    · have hl8 := openGet_len hok hlen
      rw [hl8] at HBS ⊢
      have HO := Lib.hid hok
      have HL8 := Lib.hid hl8
      clear hok hl8
      obtain ⟨b, o, rfl, _, hcell⟩ := HBS.out.at_ (by decide)
      go_wp2_with (fail)
      go_loopw [21, 6] (fun i s wr => ∃ k : Nat, k ≤ 8 ∧ i = .int .i64 k ∧ s = .int .u64 ((valD ((openGet l).take k) : Nat) : Int) ∧ wr = w1) (fun i _ _ => 8 - (intOf i).toNat)
      case atStart => exact ⟨0, by omega, rfl, rfl, rfl⟩
      case round =>
        obtain ⟨k, hk, rfl, rfl, rfl⟩ := hrel
        by_cases h8 : k < 8
        · have hv := valD_take (l := openGet l) (k := k) (by rw [HL8.out]; exact h8)
          have hlt := valD_lt ((openGet l).take k)
          have hlk : ((openGet l).take k).length = k := by rw [List.length_take, HL8.out]; omega
          rw [hlk] at hlt
          have hpow : 256 ^ k ≤ 72057594037927936 := by
            have : 256 ^ k ≤ 256 ^ 7 := Nat.pow_le_pow_right (by decide) (by omega)
            exact this
          have hc := hcell k ((openGet l).getD k 0) (by rw [List.getD_eq_getElem?_getD, List.getElem?_eq_getElem (by rw [HL8.out]; exact h8)]; rfl)
          obtain ⟨y, hy⟩ : ∃ y, y = (openGet l).getD k 0 := ⟨_, rfl⟩
          rw [← hy] at hc hv
          obtain ⟨V, hV⟩ : ∃ V, V = valD ((openGet l).take k) := ⟨_, rfl⟩
          rw [← hV] at hv hlt ⊢
          have hy2 := y.toNat_lt
          have HV := Lib.hid hv
          have HVL : Hid (V < 72057594037927936) := Lib.hid (by omega)
          have HY2 := Lib.hid hy2
          clear hy hV hv hlt hlk hpow hcell hy2
          go_wp2_with (fail)
          refine ⟨⟨k + 1, by omega, by go_num, ?_, trivial⟩, by simp [intOf]; omega⟩
          have h1 := HVL.out
          have h2 := HY2.out
          rw [HV.out, IntKind.wrap_u64, IntKind.wrap_u64, show ((V : Int) * 256) % 18446744073709551616 = ((V * 256 : Nat) : Int) by omega, show (y.toNat : Int) % 18446744073709551616 = (y.toNat : Int) by omega, u64_or_nat (V * 256) y.toNat (by omega) (by omega), or_low V y.toNat (by omega)]
        · obtain rfl : k = 8 := by omega
          clear h8
          rw [List.take_of_length_le (by rw [HL8.out]; exact Nat.le_refl _)]
          have HND2 : Hid (numD l = if 1099511627776 < valD (openGet l) then (0, 3) else ((valD (openGet l) : Int), 0)) := Lib.hid (by rw [HND.out, if_neg (by omega), if_neg (by rw [HO.out]; decide)])
          obtain ⟨V, hV⟩ : ∃ V, V = valD (openGet l) := ⟨_, rfl⟩
          rw [← hV] at HND2 ⊢
          clear hV hcell
          by_cases hbig : 1099511627776 < V
          · have e1 : decide ((1099511627776 : Int) < (V : Int)) = true := by simp; omega
            have e2 : (1099511627776 : Int) < (V : Int) := by omega
            go_wp2_with (fail)
            go_ret2
            rw [HND2.out, if_pos hbig]
            exact ⟨rfl, HB1.out⟩
          · have e1 : decide ((1099511627776 : Int) < (V : Int)) = false := by simp; omega
            have e2 : ¬ ((1099511627776 : Int) < (V : Int)) := by omega
            have e3 : wrap64 (V : Int) = (V : Int) := IntWalk.wrap64_in _ (by omega)
            go_wp2_with (fail)
            go_ret2
            rw [HND2.out, if_neg hbig]
            exact ⟨rfl, HB1.out⟩
  · have d1 : ((n : Int) != 12) = true := by simp; omega
    go_wp2_with (fail)
    go_ret2
    rw [HND.out, if_pos (by omega)]
    exact ⟨rfl, Below.refl _ _⟩
end Go.Proofs.Ytolomfdommnklaa
