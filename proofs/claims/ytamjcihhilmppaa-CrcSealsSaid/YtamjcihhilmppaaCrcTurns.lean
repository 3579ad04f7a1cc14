/- The law CrcTurns, walked. -/
import Derived.Test.YtamjcihhilmppaaCrcOpen
import Derived.Test.YtamjcihhilmppaaCrcBursts
namespace Go.Proofs.Ytamjcihhilmppaa
open Go.RowKit

theorem be4_inj {x y : Nat} (hx : x < 4294967296) (hy : y < 4294967296) (h : be4 x = be4 y) : x = y := by
  have h' : (be4 x).map UInt8.toNat = (be4 y).map UInt8.toNat := by rw [h]
  simp [be4] at h'
  omega
theorem open_sealed (l : List UInt8) : openOk (l ++ be4 (Crc.sum 0 l)) = true ∧ openGet (l ++ be4 (Crc.sum 0 l)) = l := by
  have e : (l ++ be4 (Crc.sum 0 l)).length - 4 = l.length := by rw [List.length_append, be4_length]; omega
  have h : openOk (l ++ be4 (Crc.sum 0 l)) = true := by
    unfold openOk
    rw [e, List.take_left, List.drop_left, decide_eq_true (by rw [List.length_append, be4_length]; omega)]
    simp
  exact ⟨h, by unfold openGet; rw [if_pos h, e, List.take_left]⟩
theorem xor_pow_ne (x : UInt8) {r : Nat} (hr : r < 8) : x ^^^ UInt8.ofNat (2 ^ r) ≠ x := by
  intro e
  have h := congrArg UInt8.toNat e
  rw [UInt8.toNat_xor, UInt8.toNat_ofNat', Nat.mod_eq_of_lt (two_pow_lt8 hr)] at h
  have h2 := congrArg (fun y => x.toNat ^^^ y) h
  simp only [Crc.xor_cancel, Nat.xor_self] at h2
  have := Nat.two_pow_pos r
  omega
theorem open_turned (l : List UInt8) (q r : Nat) (x : UInt8) (hx : (l ++ be4 (Crc.sum 0 l))[q]? = some x) (hr : r < 8) : openOk ((l ++ be4 (Crc.sum 0 l)).set q (x ^^^ UInt8.ofNat (2 ^ r))) = false ∧ openGet ((l ++ be4 (Crc.sum 0 l)).set q (x ^^^ UInt8.ofNat (2 ^ r))) = [] := by
  have hs := Crc.sum_lt (s := 0) l (by omega)
  have h : openOk ((l ++ be4 (Crc.sum 0 l)).set q (x ^^^ UInt8.ofNat (2 ^ r))) = false := by
    unfold openOk
    have e : ((l ++ be4 (Crc.sum 0 l)).set q (x ^^^ UInt8.ofNat (2 ^ r))).length - 4 = l.length := by rw [List.length_set, List.length_append, be4_length]; omega
    rw [e]
    rw [Bool.and_eq_false_iff]
    right
    rw [beq_eq_false_iff_ne]
    intro heq
    rcases Nat.lt_or_ge q l.length with hq | hq
    · rw [List.set_append_left _ _ hq] at heq
      have e1 : (l.set q (x ^^^ UInt8.ofNat (2 ^ r))).length = l.length := List.length_set
      rw [← e1, List.take_left, List.drop_left] at heq
      have hlx : l[q]? = some x := by rw [List.getElem?_append_left hq] at hx; exact hx
      have h2 := Crc.sum_ne 0 l (l.set q (x ^^^ UInt8.ofNat (2 ^ r))) (8 * q + r) 1 e1.symm (by
        rw [Crc.num_set l q x _ hlx, UInt8.toNat_ofNat', Nat.mod_eq_of_lt (two_pow_lt8 hr), Nat.mul_one, Nat.pow_add]) (by omega) (by omega) (by omega)
      exact h2 (be4_inj (Crc.sum_lt _ (by omega)) hs heq)
    · rw [List.set_append_right _ _ hq, List.take_left, List.drop_left] at heq
      rw [List.getElem?_append_right hq] at hx
      have := congrArg (fun m : List UInt8 => m[q - l.length]?) heq
      have hlt : q - l.length < (be4 (Crc.sum 0 l)).length := (List.getElem?_eq_some_iff.1 hx).1
      simp only [hx, List.getElem?_set_self hlt] at this
      exact xor_pow_ne x hr (Option.some.inj this).symm
  exact ⟨h, by unfold openGet; rw [if_neg (by rw [h]; decide)]⟩

set_option maxRecDepth 100000 in
set_option maxHeartbeats 1000000 in
theorem crcTurns_not (A : Option Addr) (n c : Nat) (l : List UInt8) (at_ : Int) (w : World) (_hB : Bs w A n c l) (hn : 2000 < n) :
    Calls Try.prog 4 #[.slice A n c, .int .i64 at_] w (True_ w) := by
  go_enter Try.func4, Try.ntmps4
  go_wp2_with (fail)
  refine (crcAlive w).mono ?_
  rintro e w1 ⟨rfl, hb1⟩
  go_wp2
  go_ret
  exact ⟨rfl, hb1⟩

set_option maxRecDepth 100000 in
set_option maxHeartbeats 1000000 in
theorem crcTurns_main (A : Option Addr) (n c : Nat) (l : List UInt8) (at_ : Int) (w : World) (hB : Bs w A n c l) (hn : n ≤ 2000) :
    Calls Try.prog 4 #[.slice A n c, .int .i64 at_] w (True_ w) := by
  have HB := Lib.hid hB; clear hB
  have HL := Lib.hid HB.out.len
  obtain ⟨K, hK, eK⟩ := bits_index at_ (8 * (n + 4)) (by omega) (by omega)
  rw [show ((8 * (n + 4) : Nat) : Int) = 8 * ((n : Int) + 4) from by omega] at eK
  have HK := Lib.hid eK
  clear eK
  have tok1 : True := trivial
  go_enter Try.func4, Try.ntmps4
  go_wp2_with (fail)
  refine (crcSeal A n c l w HB.out (by omega)).mono ?_
  rintro e w1 ⟨g, rfl, hh1, hg1, hb1⟩
  have hsz1 := hb1.size
  have HB1 := Lib.hid hb1
  have HO := Lib.hid (open_sealed l)
  have HT := Lib.hid (open_turned l)
  obtain ⟨S, hS⟩ : ∃ S, S = l ++ be4 (Crc.sum 0 l) := ⟨_, rfl⟩
  have hSl : S.length = n + 4 := by rw [hS, List.length_append, be4_length, HL.out]
  rw [← hS] at hh1 HO HT
  have XS := Lib.hid (Bs.block hh1 hSl (by unfold maxLen; omega))
  have HSl := Lib.hid hSl
  clear hh1 hS hSl hb1
  go_wp2_with (fail)
  refine (crcOpen _ _ _ S w1 XS.out (by omega)).mono ?_
  rw [HO.out.1, HO.out.2]
  rintro e w2 ⟨A2, c2, rfl, hB2, hb2⟩
  rw [HL.out] at hB2 ⊢
  have hsz2 := hb2.size
  have X2 := Lib.hid hB2
  have HB2 := Lib.hid hb2
  clear hB2 hb2
  go_wp2_with (fail)
  refine (crcAlive w2).mono ?_
  rintro e w3 ⟨rfl, hb3⟩
  have cv1 := (X2.out.below hb3).str1
  have hb13 := HB2.out.trans (hb3.mono hsz2)
  have hb03 := HB1.out.trans (hb13.mono hsz1)
  have cv2 := (HB.out.below hb03).str1
  have HB3 := Lib.hid hb03
  have XS3 := Lib.hid (XS.out.below hb13)
  have hsz3 := hb03.size
  clear hb3 hb13 hb03
  go_wp2_with (first
    | (at_builtin; have _t := tok1; go_loud ((refine wpList_app rfl (.tmp 52) (.tmp 53) 22 rfl w3.heap.size 5 Try.underlying22 byteInfo _ [] rfl (Own.lit 5 w3 [] (Nat.le_refl _) (by simp [maxLen])) _ (n + 4) _ S rfl (XS3.out.alloc _) (by simp; omega) (by simp) ?_; intro v4 w4 hown4 hb4 hg4; have b4 : Below w3.heap.size w3 w4 := ((Below.refl _ _).alloc (Nat.le_refl _) _).trans hb4; clear tok1 hb4 hg4 _t))))
  rw [HK.out]
  generalize hL : [] ++ S = S' at hown4
  obtain rfl : S = S' := by rw [← hL]; rfl
  clear hL
  obtain ⟨g4, c4, rfl, hg4, hg5⟩ := hown4.form (by rw [HSl.out]; omega)
  obtain ⟨q, r, hqr, hr8⟩ : ∃ q r, 8 * q + r = K ∧ r < 8 := ⟨K / 8, K % 8, by omega, by omega⟩
  have hq : q < S.length := by rw [HSl.out]; omega
  have HX := Lib.hid (List.getElem?_eq_getElem hq)
  have hcell := hown4.cell (List.getElem?_eq_getElem hq)
  have hfr := hown4.frozen q
  generalize S[q] = x at *
  have e0' := xor_bit x r hr8
  obtain ⟨y, hy⟩ : ∃ y, y = x ^^^ UInt8.ofNat (2 ^ r) := ⟨_, rfl⟩
  rw [← hy] at e0'
  have HY := Lib.hid hy
  clear hy
  have e1 : (K : Int) / 8 = (q : Int) := by omega
  have e2 : (K : Int) % 8 = (r : Int) := by omega
  have e3 : (q : Int) < (n : Int) + 4 := by omega
  have e4 : (q : Int) < ((S.length : Nat) : Int) := by omega
  have HO4 := Lib.hid hown4
  have HB4 := Lib.hid (HB3.out.trans (b4.mono hsz3))
  have hsz4 := HB4.out.size
  have hsz34 := b4.size
  clear hown4 b4 hqr hq
  go_region
  have hset := HO4.out.store q y
  have hb5 : Below w3.heap.size w4 ((w4.setCell ⟨g4, q, none⟩ (.int .u8 (y.toNat : Int))).drew) := (((Below.refl _ w4).mono (by omega)).setCell (by omega) _).drew
  have hset2 : Bs ((w4.setCell ⟨g4, q, none⟩ (.int .u8 (y.toNat : Int))).drew) (some ⟨g4, 0, none⟩) S.length c4 (S.set q y) := by
    obtain ⟨A', c', e, hb', _⟩ := hset.bs
    injection e with e1 e2 e3
    subst e1 e3
    rw [List.length_set] at hb'
    exact hb'.drew
  have hbW := Lib.hid (HB4.out.trans (hb5.mono hsz3))
  have HS5 := Lib.hid hset2
  have ht := HT.out q r x HX.out hr8
  rw [← HY.out] at ht
  have HTT := Lib.hid ht
  clear hset hset2 hb5 ht
  generalize (w4.setCell ⟨g4, q, none⟩ (.int .u8 (y.toNat : Int))).drew = w5 at *
  go_wp2_with (fail)
  refine (crcOpen _ _ _ (S.set q y) w5 HS5.out (by rw [HSl.out]; omega)).mono ?_
  rw [HTT.out.1, HTT.out.2]
  rintro e w6 ⟨A6, c6, rfl, hB6, hb6⟩
  have HBF := Lib.hid (hbW.out.trans (hb6.mono hbW.out.size))
  clear hB6 hb6
  go_wp2
  go_ret
  exact ⟨rfl, HBF.out⟩

theorem crcTurns_walk (A : Option Addr) (n c : Nat) (l : List UInt8) (at_ : Int) (w : World) (hB : Bs w A n c l) (_hR : c ≤ 140737488351232) (_hat : (Lit.int .i64 at_).wf = true) :
    Calls Try.prog 4 #[.slice A n c, .int .i64 at_] w (True_ w) := by
  by_cases h : 2000 < n
  · exact crcTurns_not A n c l at_ w hB h
  · exact crcTurns_main A n c l at_ w hB (by omega)
end Go.Proofs.Ytamjcihhilmppaa
