/- The law CrcNested, walked. -/
import Derived.Test.YtamjcihhilmppaaCrcAlive
namespace Go.Proofs.Ytamjcihhilmppaa
open Go.RowKit

/-- a number's bytes, the lowest first -/
def le4 (x : Nat) : List UInt8 := [UInt8.ofNat x, UInt8.ofNat (x / 256), UInt8.ofNat (x / 65536), UInt8.ofNat (x / 16777216)]
theorem le4_cells (x : Nat) (hx : x < 4294967296) : #[Value.int .u8 ((x : Int) % 256), .int .u8 ((x : Int) / 256 % 256), .int .u8 ((x : Int) / 65536 % 256), .int .u8 ((x : Int) / 16777216)] = (u8s (le4 x)).toArray := by
  simp [le4, u8s]
  omega
theorem xor_add {c : Nat} (hc : c < 256) (y : Nat) : c ^^^ 2 ^ 8 * y = c + 256 * y := by
  rw [Nat.add_comm, show 256 * y = 2 ^ 8 * y from rfl]
  apply Nat.eq_of_testBit_eq
  intro i
  rw [Nat.testBit_xor, Nat.testBit_two_pow_mul_add _ (by omega), Nat.testBit_two_pow_mul]
  by_cases h : i < 8
  · simp [h, show ¬ 8 ≤ i from by omega]
  · have : Nat.testBit c i = false := Nat.testBit_lt_two_pow (Nat.lt_of_lt_of_le hc (by
      have : 2 ^ 8 ≤ 2 ^ i := Nat.pow_le_pow_right (by omega) (by omega)
      simpa using this))
    simp [h, this, show 8 ≤ i from by omega]
theorem le4_num {x : Nat} (hx : x < 4294967296) : Crc.num (le4 x) = x := by
  unfold le4 Crc.num Crc.num Crc.num Crc.num Crc.num
  simp only [UInt8.toNat_ofNat']
  rw [xor_add (by omega), xor_add (by omega), xor_add (by omega), xor_add (by omega)]
  omega
theorem nested (l : List UInt8) (x : Nat) (hx : x = Crc.sum 0 l) : Crc.sum 0 ([] ++ l ++ le4 x) = 558161692 := by
  have h := Crc.sum_lt (s := 0) l (by omega)
  rw [← hx] at h
  rw [List.nil_append]
  unfold Crc.sum at hx ⊢
  rw [Crc.upd_append, Crc.upd_num (le4 x), le4_num h]
  have : Crc.upd (4294967295 ^^^ 0) l = 4294967295 ^^^ x := by rw [hx, Crc.xor_cancel]
  rw [this, Nat.xor_assoc, Nat.xor_self, show 8 * (le4 x).length = 32 from rfl]
  clear this hx h
  revert x
  exact fun _ => by decide +kernel

set_option maxRecDepth 100000 in
set_option maxHeartbeats 1000000 in
theorem crcNested_walk (A : Option Addr) (n c : Nat) (l : List UInt8) (w : World) (hB : Bs w A n c l) (_hR : c ≤ 140737488351232) :
    Calls Try.prog 7 #[.slice A n c] w (True_ w) := by
  have hmax := hB.nmax
  have HB := Lib.hid hB; clear hB
  by_cases hn : 2000 < n
  · go_enter Try.func7, Try.ntmps7
    go_wp2_with (fail)
    refine (crcAlive w).mono ?_
    rintro e w1 ⟨rfl, hb1⟩
    go_wp2
    go_ret
    exact ⟨rfl, hb1⟩
  · go_enter Try.func7, Try.ntmps7
    go_wp2_with (fail)
    refine (crcSum A n c l w HB.out).mono ?_
    rintro e w1 ⟨rfl, rfl⟩
    have hs := Crc.sum_lt (s := 0) l (by omega)
    obtain ⟨x, hx⟩ : ∃ x, x = Crc.sum 0 l := ⟨_, rfl⟩
    rw [← hx] at hs ⊢
    have HX := Lib.hid hx; clear hx
    have HL : l.length ≤ n := by have := HB.out.len; omega
    have tok1 : True := trivial
    have tok2 : True := trivial
    have e1 : ((x % 256 : Nat) : Int) = (x : Int) % 256 := by omega
    have E := Lib.hid (le4_cells x hs)
    clear e1
    go_wp2_with (first
      | (at_builtin; have _t := tok1; go_loud ((refine wpList_app rfl (.tmp 11) (.tmp 12) 22 rfl w.heap.size 5 Try.underlying22 byteInfo _ [] rfl (Own.lit 5 w [] (Nat.le_refl _) (by simp [maxLen])) _ n c l rfl (HB.out.alloc _) (by simp; omega) (by simp) ?_; intro v1 w1 hown1 hb1 hg1; have b1 : Below w.heap.size w w1 := ((Below.refl _ _).alloc (Nat.le_refl _) _).trans hb1; clear tok1 hb1 hg1 _t)))
      | (at_builtin; have _t := tok2; go_loud ((refine wpList_app rfl (.tmp 13) (.tmp 25) 22 rfl w.heap.size 5 Try.underlying22 byteInfo _ ([] ++ l) rfl (hown1.alloc _) _ 4 4 (le4 x) rfl (Bs.lit _ (le4 x) 5 _ _ rfl E.out rfl (by simp [maxLen, le4])) (by simp; omega) (by have := b1.size; simp; omega) ?_; intro v2 w2 hown2 hb2 hg2; have b2 : Below w.heap.size w w2 := (b1.alloc b1.size _).trans hb2; clear tok2 hb2 hg2 _t))))
    refine (crcAlive w2).mono ?_
    rintro e w3 ⟨rfl, hb3⟩
    have HN := Lib.hid (nested l x HX.out)
    generalize [] ++ l ++ le4 x = L at hown2 HN
    obtain ⟨A4, c4, rfl, hB4, _⟩ := hown2.bs
    have HB5 := Lib.hid (hB4.below hb3)
    have b3 := b2.trans (hb3.mono b2.size)
    clear hown2 hB4 b1 b2 hb3 hown1
    go_wp2_with (fail)
    refine (crcSum _ _ _ _ _ HB5.out).mono ?_
    rw [HN.out]
    rintro e w4 ⟨rfl, rfl⟩
    go_wp2
    go_ret
    exact ⟨rfl, b3⟩
end Go.Proofs.Ytamjcihhilmppaa
