/- Laid together: CrcRef, CrcRef2, Cur1, Cur2, Cur3, Cur4, Cur5, Cur6, Cur7. -/
import Derived.Test.YtolomfdommnklaaCrcOpen
import Derived.Test.YtolomfdommnklaaCrcSeal
import Derived.Laws.BitsAllLaws
import Derived.Test.YtolomfdommnklaaDk16
import Derived.Defers

/- Layer 1: the document's answers, walked. -/
namespace Go.Proofs.Ytolomfdommnklaa
open Go.RowKit

set_option maxRecDepth 100000 in
theorem refTable (i : Nat) (w : World) (hi : i < 256) : Calls Try.prog 96 #[.int .u8 (i : Int)] w fun e w' => e = .returned (.int .u32 (Crc.row i : Nat)) ∧ w = w' := by
  go_enter Try.func96, Try.ntmps96
  go_wp2
  go_loop [3, 4] (fun x k => ∃ n : Nat, n ≤ 8 ∧ k = .int .i64 n ∧ x = .int .u32 (Crc.it n i : Nat)) (fun _ k => 8 - (intOf k).toNat)
  case atStart => exact ⟨0, Nat.zero_le _, rfl, rfl⟩
  case round =>
    obtain ⟨n, hn, rfl, rfl⟩ := hrel
    have hl : Crc.it n i < 4294967296 := Crc.it_lt n (by omega)
    have HS := Lib.hid (it_snoc n i)
    generalize hxx : Crc.it n i = x at *
    have HX := Lib.hid hxx; clear hxx
    by_cases hlt : n < 8
    · go_wp2
      all_goals
        go_round
        case rel =>
          refine ⟨n + 1, by omega, by go_num, ?_⟩
          rw [HS.out]
          unfold Crc.step
          have hx := Lib.hid trivial
          first
          | (rw [if_pos (by have : (((x : Int) % 2) == 1) = true := by assumption
                            have := beq_iff_eq.1 this; omega)]
             rw [show (3988292384 : Int) = ((3988292384 : Nat) : Int) from rfl, show (x : Int) / 2 = ((x / 2 : Nat) : Int) from by omega, u32_xor_nat _ _ (by omega) (by omega)])
          | (rw [if_neg (by have : (((x : Int) % 2) == 1) = false := by assumption
                            have := beq_eq_false_iff_ne.1 this; omega)]
             rw [show (x : Int) / 2 = ((x / 2 : Nat) : Int) from by omega])
        case measure => simp [intOf]; omega
    · obtain rfl : n = 8 := by omega
      go_wp2
      go_ret
      rw [← HX.out]
      exact ⟨rfl, rfl⟩

theorem u32_not' (s : Nat) (hs : s < 4294967296) : bits BinOp.xor IntKind.u32 4294967295 (s : Int) = ((4294967295 ^^^ s : Nat) : Int) := u32_xor_nat 4294967295 _ (by omega) hs

set_option maxRecDepth 100000 in
theorem refUpdate (s : Nat) (A : Option Addr) (n c : Nat) (l : List UInt8) (w : World) (hs : s < 4294967296) (hB : Bs w A n c l) :
    Calls Try.prog 76 #[.int .u32 (s : Int), .slice A n c] w fun e w' => e = .returned (.int .u32 (Crc.sum s l : Nat)) ∧ w = w' := by
  have hn := hB.nmax
  have HB := Lib.hid hB; clear hB
  have h1 := u32_not' s hs
  go_enter Try.func76, Try.ntmps76
  go_wp2_with (fail)
  clear h1
  go_loop [5, 6] (fun x k => ∃ m : Nat, m ≤ n ∧ k = .int .i64 m ∧ x = .int .u32 (Crc.upd (4294967295 ^^^ s) (l.take m) : Nat)) (fun _ k => n - (intOf k).toNat)
  case atStart => exact ⟨0, Nat.zero_le _, rfl, rfl⟩
  case round =>
    obtain ⟨m, hm, rfl, rfl⟩ := hrel
    have hl : Crc.upd (4294967295 ^^^ s) (l.take m) < 4294967296 := Crc.upd_lt _ (Nat.xor_lt_two_pow (n := 32) (by omega) (by omega))
    by_cases hlt : m < n
    · obtain ⟨b, o, rfl, hb, hc⟩ := HB.out.at_ (by omega)
      have hml : m < l.length := by have := HB.out.len; omega
      have hcell := hc m _ (List.getElem?_eq_getElem hml)
      have HC := Lib.hid (Crc.upd_snoc (4294967295 ^^^ s) (l.take m) l[m])
      have HT := Lib.hid (List.take_succ_eq_append_getElem hml)
      generalize l[m] = d at *
      generalize Crc.upd (4294967295 ^^^ s) (l.take m) = x at *
      have hd := d.toNat_lt
      have hxd : (x % 256) ^^^ d.toNat < 256 := Nat.xor_lt_two_pow (n := 8) (by omega) (by omega)
      have hr : Crc.row ((x % 256) ^^^ d.toNat) < 4294967296 := Crc.row_lt (by omega)
      have h2 : bits BinOp.xor IntKind.u8 ((x : Int) % 256) (d.toNat : Int) = (((x % 256) ^^^ d.toNat : Nat) : Int) := by
        rw [show ((x : Int) % 256) = ((x % 256 : Nat) : Int) from by omega]
        exact u8_xor_nat _ _ (by omega) hd
      have HR := Lib.hid (refTable _ w hxd)
      have h3 : bits BinOp.xor IntKind.u32 ((Crc.row ((x % 256) ^^^ d.toNat) : Nat) : Int) ((x : Int) / 256) = ((Crc.row ((x % 256) ^^^ d.toNat) ^^^ (x / 256) : Nat) : Int) := by
        rw [show ((x : Int) / 256) = ((x / 256 : Nat) : Int) from by omega]
        exact u32_xor_nat _ _ hr (by omega)
      generalize Crc.row ((x % 256) ^^^ d.toNat) = r at *
      generalize (x % 256) ^^^ d.toNat = y at *
      clear hc hxd hr hd
      go_wp2_with (go_at_call 96; refine (HR.out).mono ?_; rintro e w' ⟨rfl, rfl⟩)
      go_round
      case rel =>
        refine ⟨m + 1, by omega, by go_num, ?_⟩
        rw [HT.out, HC.out]
      case measure => simp [intOf]; omega
    · obtain rfl : m = n := by omega
      have hl2 : l.take m = l := List.take_of_length_le (by have := HB.out.len; omega)
      rw [hl2] at hl ⊢
      clear hl2
      have h4 := u32_not' _ hl
      go_wp2
      go_ret
      exact ⟨rfl, rfl⟩

theorem refSum (A : Option Addr) (n c : Nat) (l : List UInt8) (w : World) (hB : Bs w A n c l) :
    Calls Try.prog 54 #[.slice A n c] w fun e w' => e = .returned (.int .u32 (Crc.sum 0 l : Nat)) ∧ w = w' := by
  have HB := Lib.hid hB; clear hB
  go_enter Try.func54, Try.ntmps54
  go_wp2_with (fail)
  refine (refUpdate 0 A n c l w (by omega) HB.out).mono ?_
  rintro e w' ⟨rfl, rfl⟩
  go_wp2
  go_ret
  exact ⟨rfl, rfl⟩

/-- what a call gives that answers bytes, and leaves what was there -/
def RetS (l : List UInt8) (w : World) (e : Ending) (w' : World) : Prop :=
  ∃ A c, e = .returned (.slice A l.length c) ∧ Bs w' A l.length c l ∧ Below w.heap.size w w'

set_option maxRecDepth 100000 in
theorem refFour (x : Nat) (w : World) (hx : x < 4294967296) : Calls Try.prog 56 #[.int .u32 (x : Int)] w fun e w' => ∃ p q r s, be4 x = [p, q, r, s] ∧ e = .returned (.slice (some ⟨w.heap.size, 0, none⟩) 4 4) ∧ w' = w.alloc (.cells #[.int .u8 (p.toNat : Int), .int .u8 (q.toNat : Int), .int .u8 (r.toNat : Int), .int .u8 (s.toNat : Int)] 5) := by
  have HE := Lib.hid (be4_cells x hx)
  go_enter Try.func56, Try.ntmps56
  go_wp2
  go_ret
  refine ⟨_, _, _, _, rfl, rfl, ?_⟩
  rw [HE.out]
  rfl

set_option maxRecDepth 100000 in
theorem refNumber (A : Option Addr) (c : Nat) (p q r s : UInt8) (w : World) (hB : Bs w A 4 c [p, q, r, s]) : Calls Try.prog 55 #[.slice A 4 c] w fun e w' => e = .returned (.int .i64 ((p.toNat : Int) * 16777216 + q.toNat * 65536 + r.toNat * 256 + s.toNat)) ∧ ∃ m, w' = w.drewN m := by
  obtain ⟨b, o, rfl, hb, hc⟩ := hB.at_ (by omega)
  have c0 := hc 0 p rfl
  rw [Nat.add_zero] at c0
  have c1 := hc 1 q rfl
  have c2 := hc 2 r rfl
  have c3 := hc 3 s rfl
  have b0 := p.toNat_lt
  have b1 := q.toNat_lt
  have b2 := r.toNat_lt
  have b3 := s.toNat_lt
  have e0 : IntKind.i64.wrap ((p.toNat : Int) * 16777216) = (p.toNat : Int) * 16777216 := IntWalk.i64_in _ (by omega)
  have e1 : IntKind.i64.wrap ((q.toNat : Int) * 65536) = (q.toNat : Int) * 65536 := IntWalk.i64_in _ (by omega)
  have e2 : IntKind.i64.wrap ((r.toNat : Int) * 256) = (r.toNat : Int) * 256 := IntWalk.i64_in _ (by omega)
  have e3 : IntKind.i64.wrap ((p.toNat : Int) * 16777216 + q.toNat * 65536) = (p.toNat : Int) * 16777216 + q.toNat * 65536 := IntWalk.i64_in _ (by omega)
  have e4 : IntKind.i64.wrap ((p.toNat : Int) * 16777216 + q.toNat * 65536 + r.toNat * 256) = (p.toNat : Int) * 16777216 + q.toNat * 65536 + r.toNat * 256 := IntWalk.i64_in _ (by omega)
  have e5 : IntKind.i64.wrap ((p.toNat : Int) * 16777216 + q.toNat * 65536 + r.toNat * 256 + s.toNat) = (p.toNat : Int) * 16777216 + q.toNat * 65536 + r.toNat * 256 + s.toNat := IntWalk.i64_in _ (by omega)
  have e6 : ∀ x : UInt8, IntKind.i64.wrap (x.toNat : Int) = (x.toNat : Int) := fun x => IntWalk.i64_in _ (by have := x.toNat_lt; omega)
  clear hc hB
  go_enter Try.func55, Try.ntmps55
  go_wp2_with (fail)
  go_quiet (fail)
  go_wp2
  go_ret
  exact ⟨rfl, _, rfl⟩
end Go.Proofs.Ytolomfdommnklaa

/- Layer 1: the document's Seal and Open, walked. -/
namespace Go.Proofs.Ytolomfdommnklaa
open Go.RowKit

set_option maxRecDepth 100000 in
set_option maxHeartbeats 1000000 in
theorem refSeal (A : Option Addr) (n c : Nat) (l : List UInt8) (w : World) (hB : Bs w A n c l) (hn : n ≤ 140737488351232) :
    Calls Try.prog 38 #[.slice A n c] w (RetS (l ++ be4 (Crc.sum 0 l)) w) := by
  have HB := Lib.hid hB
  have HL : l.length ≤ n := by have := hB.len; omega
  have hs := Crc.sum_lt (s := 0) l (by omega)
  have tok1 : True := trivial
  have tok2 : True := trivial
  clear hB
  go_enter Try.func38, Try.ntmps38
  go_wp2_with (first
    | (at_builtin; have _t := tok1; go_loud ((refine wpList_app rfl (.tmp 3) (.tmp 4) 22 rfl w.heap.size 5 Try.underlying22 byteInfo _ [] rfl (Own.lit 5 w [] (Nat.le_refl _) (by simp [maxLen])) _ n c l rfl (HB.out.alloc _) (by simp; omega) (by simp) ?_; intro v1 w1 hown1 hb1 hg1; have b1 : Below w.heap.size w w1 := ((Below.refl _ _).alloc (Nat.le_refl _) _).trans hb1; clear tok1 hb1 hg1 _t))))
  refine (refSum A n c l w1 (HB.out.below b1)).mono ?_
  rintro e w2 ⟨rfl, rfl⟩
  go_wp2_with (fail)
  refine (refFour _ w1 hs).mono ?_
  rintro e w2 ⟨p, q, r, s, hbe, rfl, rfl⟩
  have HBE := Lib.hid hbe
  have HB1 := Lib.hid b1
  have HO := Lib.hid (hown1.alloc (.cells #[.int .u8 (p.toNat : Int), .int .u8 (q.toNat : Int), .int .u8 (r.toNat : Int), .int .u8 (s.toNat : Int)] 5))
  have hz := b1.size
  clear hbe b1 hown1
  go_wp2_with (first
    | (at_builtin; have _t := tok2; go_loud ((refine wpList_app rfl (.tmp 5) (.tmp 8) 22 rfl w.heap.size 5 Try.underlying22 byteInfo _ ([] ++ l) rfl HO.out _ 4 4 [p, q, r, s] rfl (Bs.lit w1 [p, q, r, s] _ _ _ rfl rfl rfl (by simp [maxLen])) (by simp; omega) (by simp; omega) ?_; intro v2 w2 hown2 hb2 hg2; have b2 := (HB1.out.alloc hz (.cells #[.int .u8 (p.toNat : Int), .int .u8 (q.toNat : Int), .int .u8 (r.toNat : Int), .int .u8 (s.toNat : Int)] 5)).trans hb2; clear tok2 hb2 hg2 _t))))
  go_ret
  have e : [] ++ l ++ [p, q, r, s] = l ++ be4 (Crc.sum 0 l) := by rw [HBE.out]; rfl
  rw [e] at hown2
  obtain ⟨A4, c4, rfl, hB4, _⟩ := hown2.bs
  exact ⟨A4, c4, rfl, hB4, b2⟩

theorem be4_num {x : Nat} (hx : x < 4294967296) (p q r s : UInt8) : be4 x = [p, q, r, s] ↔ (x : Int) = (p.toNat : Int) * 16777216 + q.toNat * 65536 + r.toNat * 256 + s.toNat := by
  have b0 := p.toNat_lt
  have b1 := q.toNat_lt
  have b2 := r.toNat_lt
  have b3 := s.toNat_lt
  constructor
  · intro h
    have h' : (be4 x).map UInt8.toNat = [p, q, r, s].map UInt8.toNat := by rw [h]
    simp [be4] at h'
    omega
  · intro h
    unfold be4
    simp only [List.cons.injEq, and_true]
    refine ⟨?_, ?_, ?_, ?_⟩ <;> (apply UInt8.toNat_inj.1; simp only [UInt8.toNat_ofNat']; omega)

set_option maxRecDepth 100000 in
set_option maxHeartbeats 1000000 in
theorem refOpen (A : Option Addr) (n c : Nat) (l : List UInt8) (w : World) (hB : Bs w A n c l) :
    Calls Try.prog 37 #[.slice A n c] w (RetBB (openOk l) (openGet l) w) := by
  have hlen := hB.len
  have hcm := hB.max
  have hle := hB.le
  by_cases h4 : n < 4
  · have e1 : openOk l = false := by unfold openOk; rw [decide_eq_false (by omega)]; rfl
    have e2 : openGet l = [] := by unfold openGet; rw [e1]; rfl
    rw [e1, e2]
    clear e1 e2 hlen hB
    go_enter Try.func37, Try.ntmps37
    go_wp2
    go_ret2
    exact ⟨none, 0, rfl, Bs.none_ _, Below.refl _ _⟩
  · obtain ⟨b, o, rfl, hb, _⟩ := hB.at_ (by omega)
    have HT := Lib.hid (hB.take (j := n - 4) (by omega))
    have hd := hB.drop (i := n - 4) (by omega)
    rw [if_neg (by omega), Option.map_some, Addr.add_lit] at hd
    have ho : openOk l = (be4 (Crc.sum 0 (l.take (n - 4))) == l.drop (n - 4)) := by
      unfold openOk
      rw [decide_eq_true (by omega), hlen]; rfl
    have hs := Crc.sum_lt (s := 0) (l.take (n - 4)) (by omega)
    have HG : Hid (openOk l = true → openGet l = l.take (n - 4)) := fun h => by unfold openGet; rw [h, hlen]; rfl
    have HG2 : Hid (openOk l = false → openGet l = []) := fun h => by unfold openGet; rw [h]; rfl
    obtain ⟨k, hk⟩ : ∃ k, n = k + 4 := ⟨n - 4, by omega⟩
    subst hk
    rw [show k + 4 - 4 = k from by omega] at *
    rw [show k + 4 - k = 4 from by omega] at hd
    obtain ⟨p, q, r, s, hdr⟩ := four hd.len
    rw [hdr] at hd ho
    have HD := Lib.hid hd
    have CS := fun W h => refSum (some ⟨b, o, none⟩) k c (l.take k) W h
    have hnum := be4_num hs p q r s
    obtain ⟨x, hx⟩ : ∃ x, x = Crc.sum 0 (l.take k) := ⟨_, rfl⟩
    rw [← hx] at CS hnum ho hs
    have CN := fun W h => refNumber (some ⟨b, o + k, none⟩) (c - k) p q r s W h
    obtain ⟨y, hy⟩ : ∃ y : Int, y = (p.toNat : Int) * 16777216 + q.toNat * 65536 + r.toNat * 256 + s.toNat := ⟨_, rfl⟩
    rw [← hy] at CN hnum
    have hxy : ((x : Int) != y) = !(openOk l) := by
      rw [ho]
      by_cases h : (x : Int) = y
      · (have h2 : (be4 x == [p, q, r, s]) = true := beq_iff_eq.2 (hnum.2 h)); rw [h2, h]; exact bne_self_eq_false y
      · have h2 : (be4 x == [p, q, r, s]) = false := beq_eq_false_iff_ne.2 fun h' => h (hnum.1 h')
        rw [h2, Bool.not_false]
        exact bne_iff_ne.2 h
    have HCS := Lib.hid CS
    have HCN := Lib.hid CN
    have HXY := Lib.hid hxy
    have e0 : (k : Int) ≤ (k : Int) + 4 := by omega
    have e9 : ¬ c = k := by omega
    have e7 : IntKind.i64.wrap (x : Int) = (x : Int) := IntWalk.i64_in _ (by omega)
    clear hB hd ho hlen hdr hx hy hnum CS CN hxy
    cases hok : openOk l with
    | false =>
      have hne := HXY.out
      rw [hok] at hne
      rw [HG2.out hok]
      clear hok
      go_enter Try.func37, Try.ntmps37
      go_wp2_with (fail)
      go_quiet ((first
        | (go_at_call 54; go_loud (exact Calls.quiet_sym (HCS.out _ (HT.out.drewN _))))
        | (go_at_call 55; go_loud (exact Calls.quiet_of (HCN.out _ (HD.out.drewN _))))))
      go_wp2
      go_ret2
      exact ⟨none, 0, rfl, Bs.none_ _, drawN_below (Below.refl _ _) _⟩
    | true =>
      have hne := HXY.out
      rw [hok] at hne
      rw [HG.out hok]
      have hlk : Hid ((l.take k).length = k) := HT.out.len
      clear hok
      go_enter Try.func37, Try.ntmps37
      go_wp2_with (fail)
      go_quiet ((first
        | (go_at_call 54; go_loud (exact Calls.quiet_sym (HCS.out _ (HT.out.drewN _))))
        | (go_at_call 55; go_loud (exact Calls.quiet_of (HCN.out _ (HD.out.drewN _))))))
      go_wp2
      go_ret2
      refine ⟨some ⟨b, o, none⟩, c, by rw [hlk.out]; rfl, ?_, drawN_below (Below.refl _ _) _⟩
      rw [hlk.out]
      exact HT.out.drewN _
end Go.Proofs.Ytolomfdommnklaa

/- Layer 15: a number's bytes, walked. -/
namespace Go.Proofs.Ytolomfdommnklaa
open Go.RowKit

/-- a number's eight bytes -/
def be8 (n : Nat) : List UInt8 := [UInt8.ofNat (n / 72057594037927936), UInt8.ofNat (n / 281474976710656), UInt8.ofNat (n / 1099511627776), UInt8.ofNat (n / 4294967296), UInt8.ofNat (n / 16777216), UInt8.ofNat (n / 65536), UInt8.ofNat (n / 256), UInt8.ofNat n]
def row8 (n k : Nat) : List UInt8 := (be8 n).take k ++ List.replicate (8 - k) 0
/-- .. with their sum -/
def bytesD (n : Nat) : List UInt8 := be8 n ++ be4 (Crc.sum 0 (be8 n))
theorem u8_cast (n : Nat) : ((UInt8.ofNat n).toNat : Int) = (n : Int) % 256 := by
  simp
/-- a block of bytes of the call's own -/
def Fresh12 (w : World) (l : List UInt8) (e : Ending) (w' : World) : Prop := ∃ g, e = .returned (.tuple #[.slice (some ⟨g, 0, none⟩) 12 12, .int .i64 0]) ∧ w.heap.size ≤ g ∧ w'.heap[g]? = some (.cells (u8s l).toArray 5) ∧ Below w.heap.size w w'
set_option maxHeartbeats 1000000 in
set_option maxRecDepth 100000 in
theorem curBytes_no (n : Int) (hn : ¬ (0 ≤ n ∧ n ≤ 1099511627776)) (w : World) : Calls Try.prog 9 #[.int .i64 n] w fun e w' => e = .returned (.tuple #[.slice none 0 0, .int .i64 3]) ∧ w = w' := by
  by_cases h0 : n < 0
  · have d0 : decide (n < 0) = true := by simpa using h0
    clear hn h0
    go_enter Try.func9, Try.ntmps9
    go_wp2_with (fail)
    go_ret2
    exact ⟨rfl, rfl⟩
  · have d0 : decide (n < 0) = false := by simpa using h0
    have d1 : decide (1099511627776 < n) = true := by simp; omega
    have d2 : 1099511627776 < n := by omega
    clear hn
    go_enter Try.func9, Try.ntmps9
    go_wp2_with (fail)
    go_ret2
    exact ⟨rfl, rfl⟩
set_option maxHeartbeats 4000000 in
set_option maxRecDepth 100000 in
theorem curBytes (n : Nat) (hn : n ≤ 1099511627776) (w : World) : Calls Try.prog 9 #[.int .i64 (n : Int)] w (Fresh12 w (bytesD n)) := by
  have d0 : decide ((n : Int) < 0) = false := by simp
  have d1 : decide ((1099511627776 : Int) < (n : Int)) = false := by simp; omega
  have d2 : ¬ ((1099511627776 : Int) < (n : Int)) := by omega
  have d3 : ¬ ((n : Int) < 0) := by omega
  have HN := Lib.hid hn
  clear hn
  go_enter Try.func9, Try.ntmps9
  have hmk : ∀ W : World, (Instr.makeSlice 22 (.int .i64 8) (.int .i64 8)).run Try.prog W = .ok (.slice (some ⟨W.heap.size, 0, none⟩) 8 8) (W.alloc (.cells (Array.replicate 8 (.int .u8 0)) 5)) := fun W => run_mk (P := Try.prog) 22 5 Try.underlying22 byteInfo 8 8 (by decide) (by decide) W
  have H0 : Hid ((w.alloc (.cells (Array.replicate 8 (.int .u8 0)) 5)).heap[w.heap.size]? = some (.cells (u8s (row8 n 0)).toArray 5)) := Lib.hid (by rw [heap_alloc_new]; rfl)
  have HB0 : Hid (Below w.heap.size w (w.alloc (.cells (Array.replicate 8 (.int .u8 0)) 5))) := Lib.hid ((Below.refl _ w).alloc (Nat.le_refl _) _)
  go_wp2_with (fail)
  first
  | (clear hmk d0 d1 d2 d3)
  | skip
  generalize w.alloc (.cells (Array.replicate 8 (.int .u8 0)) 5) = w0 at *
  go_loopw [15] (fun i wr => ∃ k : Nat, k ≤ 8 ∧ i = .int .i64 k ∧ wr.heap[w.heap.size]? = some (.cells (u8s (row8 n k)).toArray 5) ∧ Below w.heap.size w wr) (fun i _ => 8 - (intOf i).toNat)
  case atStart => exact ⟨0, by omega, rfl, H0.out, HB0.out⟩
  case round =>
    clear H0 HB0
    obtain ⟨wo, rfl⟩ : ∃ wo : World, wo = wr := ⟨_, rfl⟩
    obtain ⟨k, hk, rfl, hr, hb⟩ := hrel
    have HR := Lib.hid hr
    have HB := Lib.hid hb
    clear hb
    have hsz := (Array.getElem?_eq_some_iff.1 hr).1
    have hf : ∀ j, wo.frozen? ⟨w.heap.size, j, none⟩ = false := fun j => by simp [World.frozen?, hr]
    have hc : ∀ j, j < 8 → (wo.cell? ⟨w.heap.size, j, none⟩).isSome = true := fun j hj => by
      rw [cell_of_row _ _ j _ _ _ hr]
      have : (u8s (row8 n k)).toArray.size = 8 := by simp [row8, be8]; omega
      rw [Array.getElem?_eq_getElem (by omega)]; rfl
    clear hr
    by_cases h8 : k < 8
    · have hcase : k = 0 ∨ k = 1 ∨ k = 2 ∨ k = 3 ∨ k = 4 ∨ k = 5 ∨ k = 6 ∨ k = 7 := by omega
      have HNB := HN.out
      rcases hcase with rfl | rfl | rfl | rfl | rfl | rfl | rfl | rfl

      · have f := hf 0
        obtain ⟨cv, hcv⟩ : ∃ v, wo.cell? ⟨w.heap.size, 0, none⟩ = some v := Option.isSome_iff_exists.1 (hc 0 (by decide))
        clear hf hc
        go_wp2_with (fail)
        refine ⟨⟨1, by omega, by first | rfl | go_num, ?_, HB.out.setCell (p := ⟨w.heap.size, 0, none⟩) (Nat.le_refl _) _⟩, by simp [intOf]⟩
        have t := heap_setCell_same wo w.heap.size 0 _ _ (.int .u8 (((be8 n).getD 0 0).toNat : Int)) HR.out
        rw [u8s_set] at t
        rw [show (row8 n 0).set 0 ((be8 n).getD 0 0) = row8 n 1 from rfl] at t
        rw [← t]
        all_goals (congr 3)
        all_goals (simp only [be8, List.getD_cons_zero, u8_cast])
        all_goals (first | rfl | omega | (congr 1; omega))
      · have f := hf 1
        obtain ⟨cv, hcv⟩ : ∃ v, wo.cell? ⟨w.heap.size, 1, none⟩ = some v := Option.isSome_iff_exists.1 (hc 1 (by decide))
        clear hf hc
        go_wp2_with (fail)
        refine ⟨⟨2, by omega, by first | rfl | go_num, ?_, HB.out.setCell (p := ⟨w.heap.size, 1, none⟩) (Nat.le_refl _) _⟩, by simp [intOf]⟩
        have t := heap_setCell_same wo w.heap.size 1 _ _ (.int .u8 (((be8 n).getD 1 0).toNat : Int)) HR.out
        rw [u8s_set] at t
        rw [show (row8 n 1).set 1 ((be8 n).getD 1 0) = row8 n 2 from rfl] at t
        rw [← t]
        all_goals (congr 3)
        all_goals (simp only [be8, List.getD_cons_zero, List.getD_cons_succ, u8_cast])
        all_goals (first | rfl | omega | (congr 1; omega))
      · have f := hf 2
        obtain ⟨cv, hcv⟩ : ∃ v, wo.cell? ⟨w.heap.size, 2, none⟩ = some v := Option.isSome_iff_exists.1 (hc 2 (by decide))
        clear hf hc
        go_wp2_with (fail)
        refine ⟨⟨3, by omega, by first | rfl | go_num, ?_, HB.out.setCell (p := ⟨w.heap.size, 2, none⟩) (Nat.le_refl _) _⟩, by simp [intOf]⟩
        have t := heap_setCell_same wo w.heap.size 2 _ _ (.int .u8 (((be8 n).getD 2 0).toNat : Int)) HR.out
        rw [u8s_set] at t
        rw [show (row8 n 2).set 2 ((be8 n).getD 2 0) = row8 n 3 from rfl] at t
        rw [← t]
        all_goals (congr 3)
        all_goals (simp only [be8, List.getD_cons_zero, List.getD_cons_succ, u8_cast])
        all_goals (first | rfl | omega | (congr 1; omega))
      · have f := hf 3
        obtain ⟨cv, hcv⟩ : ∃ v, wo.cell? ⟨w.heap.size, 3, none⟩ = some v := Option.isSome_iff_exists.1 (hc 3 (by decide))
        clear hf hc
        go_wp2_with (fail)
        refine ⟨⟨4, by omega, by first | rfl | go_num, ?_, HB.out.setCell (p := ⟨w.heap.size, 3, none⟩) (Nat.le_refl _) _⟩, by simp [intOf]⟩
        have t := heap_setCell_same wo w.heap.size 3 _ _ (.int .u8 (((be8 n).getD 3 0).toNat : Int)) HR.out
        rw [u8s_set] at t
        rw [show (row8 n 3).set 3 ((be8 n).getD 3 0) = row8 n 4 from rfl] at t
        rw [← t]
        all_goals (congr 3)
        all_goals (simp only [be8, List.getD_cons_zero, List.getD_cons_succ, u8_cast])
        all_goals (first | rfl | omega | (congr 1; omega))
      · have f := hf 4
        obtain ⟨cv, hcv⟩ : ∃ v, wo.cell? ⟨w.heap.size, 4, none⟩ = some v := Option.isSome_iff_exists.1 (hc 4 (by decide))
        clear hf hc
        go_wp2_with (fail)
        refine ⟨⟨5, by omega, by first | rfl | go_num, ?_, HB.out.setCell (p := ⟨w.heap.size, 4, none⟩) (Nat.le_refl _) _⟩, by simp [intOf]⟩
        have t := heap_setCell_same wo w.heap.size 4 _ _ (.int .u8 (((be8 n).getD 4 0).toNat : Int)) HR.out
        rw [u8s_set] at t
        rw [show (row8 n 4).set 4 ((be8 n).getD 4 0) = row8 n 5 from rfl] at t
        rw [← t]
        all_goals (congr 3)
        all_goals (simp only [be8, List.getD_cons_zero, List.getD_cons_succ, u8_cast])
        all_goals (first | rfl | omega | (congr 1; omega))
      · have f := hf 5
        obtain ⟨cv, hcv⟩ : ∃ v, wo.cell? ⟨w.heap.size, 5, none⟩ = some v := Option.isSome_iff_exists.1 (hc 5 (by decide))
        clear hf hc
        go_wp2_with (fail)
        refine ⟨⟨6, by omega, by first | rfl | go_num, ?_, HB.out.setCell (p := ⟨w.heap.size, 5, none⟩) (Nat.le_refl _) _⟩, by simp [intOf]⟩
        have t := heap_setCell_same wo w.heap.size 5 _ _ (.int .u8 (((be8 n).getD 5 0).toNat : Int)) HR.out
        rw [u8s_set] at t
        rw [show (row8 n 5).set 5 ((be8 n).getD 5 0) = row8 n 6 from rfl] at t
        rw [← t]
        all_goals (congr 3)
        all_goals (simp only [be8, List.getD_cons_zero, List.getD_cons_succ, u8_cast])
        all_goals (first | rfl | omega | (congr 1; omega))
      · have f := hf 6
        obtain ⟨cv, hcv⟩ : ∃ v, wo.cell? ⟨w.heap.size, 6, none⟩ = some v := Option.isSome_iff_exists.1 (hc 6 (by decide))
        clear hf hc
        go_wp2_with (fail)
        refine ⟨⟨7, by omega, by first | rfl | go_num, ?_, HB.out.setCell (p := ⟨w.heap.size, 6, none⟩) (Nat.le_refl _) _⟩, by simp [intOf]⟩
        have t := heap_setCell_same wo w.heap.size 6 _ _ (.int .u8 (((be8 n).getD 6 0).toNat : Int)) HR.out
        rw [u8s_set] at t
        rw [show (row8 n 6).set 6 ((be8 n).getD 6 0) = row8 n 7 from rfl] at t
        rw [← t]
        all_goals (congr 3)
        all_goals (simp only [be8, List.getD_cons_zero, List.getD_cons_succ, u8_cast])
        all_goals (first | rfl | omega | (congr 1; omega))
      · have f := hf 7
        obtain ⟨cv, hcv⟩ : ∃ v, wo.cell? ⟨w.heap.size, 7, none⟩ = some v := Option.isSome_iff_exists.1 (hc 7 (by decide))
        clear hf hc
        go_wp2_with (fail)
        refine ⟨⟨8, by omega, by first | rfl | go_num, ?_, HB.out.setCell (p := ⟨w.heap.size, 7, none⟩) (Nat.le_refl _) _⟩, by simp [intOf]⟩
        have t := heap_setCell_same wo w.heap.size 7 _ _ (.int .u8 (((be8 n).getD 7 0).toNat : Int)) HR.out
        rw [u8s_set] at t
        rw [show (row8 n 7).set 7 ((be8 n).getD 7 0) = row8 n 8 from rfl] at t
        rw [← t]
        all_goals (congr 3)
        all_goals (simp only [be8, List.getD_cons_zero, List.getD_cons_succ, u8_cast])
        all_goals (first | rfl | omega | (congr 1; omega))
    · obtain rfl : k = 8 := by omega
      have HBS : Hid (Bs wo (some ⟨w.heap.size, 0, none⟩) 8 8 (be8 n)) := Lib.hid (Bs.block (by have := HR.out; rw [show row8 n 8 = be8 n from rfl] at this; exact this) rfl (by decide))
      clear hf hc h8
      go_wp2_with (fail)
      refine (crcSeal _ 8 8 (be8 n) wo HBS.out (by decide)).mono ?_
      rintro e w5 ⟨g, rfl, hg, hge, hb5⟩
      have HP : Hid (Fresh12 w (bytesD n) (.returned (.tuple #[.slice (some ⟨g, 0, none⟩) 12 12, .int .i64 0])) w5) := Lib.hid ⟨g, rfl, Nat.le_trans HB.out.size hge, hg, HB.out.trans (hb5.mono HB.out.size)⟩
      clear hg hge hb5
      go_wp2_with (fail)
      go_ret2
      exact HP.out
end Go.Proofs.Ytolomfdommnklaa

/- Layer 15: the number of bytes, walked. -/
namespace Go.Proofs.Ytolomfdommnklaa
open Go.RowKit

/-- the number that bytes tell -/
def valD (l : List UInt8) : Nat := l.foldl (fun a b => a * 256 + b.toNat) 0
/-- a file's number, and why there is none -/
def numD (l : List UInt8) : Int × Int :=
  if l.length ≠ 12 then (0, 7) else if openOk l = false then (0, 8) else if 1099511627776 < valD (openGet l) then (0, 3) else ((valD (openGet l) : Int), 0)
theorem valD_app (l : List UInt8) (b : UInt8) : valD (l ++ [b]) = valD l * 256 + b.toNat := by simp [valD]
theorem foldl_lt (l : List UInt8) : ∀ a, l.foldl (fun a b => a * 256 + b.toNat) a < (a + 1) * 256 ^ l.length := by
  induction l with
  | nil => intro a; simp
  | cons b r ih =>
    intro a
    have h1 := ih (a * 256 + b.toNat)
    have h2 := b.toNat_lt
    rw [List.foldl_cons, List.length_cons, Nat.pow_succ]
    refine Nat.lt_of_lt_of_le h1 ?_
    rw [Nat.mul_comm (256 ^ r.length) 256, ← Nat.mul_assoc]
    exact Nat.mul_le_mul_right _ (by omega)
theorem valD_lt (l : List UInt8) : valD l < 256 ^ l.length := by
  have := foldl_lt l 0
  simpa [valD] using this
theorem valD_take {l : List UInt8} {k : Nat} (hk : k < l.length) : valD (l.take (k + 1)) = valD (l.take k) * 256 + (l.getD k 0).toNat := by
  rw [List.take_succ_eq_append_getElem hk, valD_app, List.getD_eq_getElem?_getD, List.getElem?_eq_getElem hk]; rfl
theorem or_low (a b : Nat) (hb : b < 256) : (a * 256) ||| b = a * 256 + b := by
  have := Nat.two_pow_add_eq_or_of_lt (i := 8) (b := b) (by omega) a
  rw [show a * 256 = 2 ^ 8 * a by omega]
  exact this.symm
theorem openGet_len {l : List UInt8} (h : openOk l = true) (hl : l.length = 12) : (openGet l).length = 8 := by
  unfold openGet
  rw [if_pos h, List.length_take]; omega
set_option maxHeartbeats 4000000 in
set_option maxRecDepth 100000 in
theorem curNumber (A : Option Addr) (n c : Nat) (l : List UInt8) (w : World) (hB : Bs w A n c l) (hn : n ≤ 140737488351232) : Calls Try.prog 10 #[.slice A n c] w fun e w' => e = .returned (.tuple #[.int .i64 (numD l).1, .int .i64 (numD l).2]) ∧ Below w.heap.size w w' := by
  have hlen := hB.len
  have HB := Lib.hid hB
  have HND : Hid (numD l = if l.length ≠ 12 then (0, 7) else if openOk l = false then (0, 8) else if 1099511627776 < valD (openGet l) then (0, 3) else ((valD (openGet l) : Int), 0)) := Lib.hid rfl
  clear hB
  go_enter Try.func10, Try.ntmps10
  by_cases h12 : n = 12
  · subst h12
    go_wp2_with (fail)
    refine (crcOpen A 12 c l w HB.out (by decide)).mono ?_
    rintro e w1 ⟨A1, c1, rfl, hB1, hb1⟩
    have HB1 := Lib.hid hb1
    have HBS := Lib.hid hB1
    clear hb1 hB1
    cases hok : openOk l
    · go_wp2_with (fail)
      go_ret2
      rw [HND.out, if_neg (by omega), if_pos hok]
      exact ⟨rfl, HB1.out⟩
    · have hl8 := openGet_len hok hlen
      rw [hl8] at HBS ⊢
      have HO := Lib.hid hok
      have HL8 := Lib.hid hl8
      clear hok hl8
      obtain ⟨b, o, rfl, _, hcell⟩ := HBS.out.at_ (by decide)
      go_wp2_with (fail)
      go_loopw [21, 6] (fun i s wr => ∃ k : Nat, k ≤ 8 ∧ i = .int .i64 k ∧ s = .int .u64 ((valD ((openGet l).take k) : Nat) : Int) ∧ wr = w1) (fun i _ _ => 8 - (intOf i).toNat)
      case atStart => exact ⟨0, by omega, rfl, rfl, rfl⟩
      case round =>
        obtain ⟨k, hk, rfl, rfl, rfl⟩ := hrel
        by_cases h8 : k < 8
        · have hv := valD_take (l := openGet l) (k := k) (by rw [HL8.out]; exact h8)
          have hlt := valD_lt ((openGet l).take k)
          have hlk : ((openGet l).take k).length = k := by rw [List.length_take, HL8.out]; omega
          rw [hlk] at hlt
          have hpow : 256 ^ k ≤ 72057594037927936 := by
            have : 256 ^ k ≤ 256 ^ 7 := Nat.pow_le_pow_right (by decide) (by omega)
            exact this
          have hc := hcell k ((openGet l).getD k 0) (by rw [List.getD_eq_getElem?_getD, List.getElem?_eq_getElem (by rw [HL8.out]; exact h8)]; rfl)
          obtain ⟨y, hy⟩ : ∃ y, y = (openGet l).getD k 0 := ⟨_, rfl⟩
          rw [← hy] at hc hv
          obtain ⟨V, hV⟩ : ∃ V, V = valD ((openGet l).take k) := ⟨_, rfl⟩
          rw [← hV] at hv hlt ⊢
          have hy2 := y.toNat_lt
          have HV := Lib.hid hv
          have HVL : Hid (V < 72057594037927936) := Lib.hid (by omega)
          have HY2 := Lib.hid hy2
          clear hy hV hv hlt hlk hpow hcell hy2
          go_wp2_with (fail)
          refine ⟨⟨k + 1, by omega, by go_num, ?_, trivial⟩, by simp [intOf]; omega⟩
          have h1 := HVL.out
          have h2 := HY2.out
          rw [HV.out, IntKind.wrap_u64, IntKind.wrap_u64, show ((V : Int) * 256) % 18446744073709551616 = ((V * 256 : Nat) : Int) by omega, show (y.toNat : Int) % 18446744073709551616 = (y.toNat : Int) by omega, u64_or_nat (V * 256) y.toNat (by omega) (by omega), or_low V y.toNat (by omega)]
        · obtain rfl : k = 8 := by omega
          clear h8
          rw [List.take_of_length_le (by rw [HL8.out]; exact Nat.le_refl _)]
          have HND2 : Hid (numD l = if 1099511627776 < valD (openGet l) then (0, 3) else ((valD (openGet l) : Int), 0)) := Lib.hid (by rw [HND.out, if_neg (by omega), if_neg (by rw [HO.out]; decide)])
          obtain ⟨V, hV⟩ : ∃ V, V = valD (openGet l) := ⟨_, rfl⟩
          rw [← hV] at HND2 ⊢
          clear hV hcell
          by_cases hbig : 1099511627776 < V
          · have e1 : decide ((1099511627776 : Int) < (V : Int)) = true := by simp; omega
            have e2 : (1099511627776 : Int) < (V : Int) := by omega
            go_wp2_with (fail)
            go_ret2
            rw [HND2.out, if_pos hbig]
            exact ⟨rfl, HB1.out⟩
          · have e1 : decide ((1099511627776 : Int) < (V : Int)) = false := by simp; omega
            have e2 : ¬ ((1099511627776 : Int) < (V : Int)) := by omega
            have e3 : wrap64 (V : Int) = (V : Int) := IntWalk.wrap64_in _ (by omega)
            go_wp2_with (fail)
            go_ret2
            rw [HND2.out, if_neg hbig]
            exact ⟨rfl, HB1.out⟩
  · have d1 : ((n : Int) != 12) = true := by simp; omega
    go_wp2_with (fail)
    go_ret2
    rw [HND.out, if_pos (by omega)]
    exact ⟨rfl, Below.refl _ _⟩
end Go.Proofs.Ytolomfdommnklaa

/- Layer 15: a number laid in a file, walked. -/
namespace Go.Proofs.Ytolomfdommnklaa
open Go.RowKit Go.MapKept

/-- how an append ends -/
def endA : Int × (Int ⊕ Int) → Ending
  | (n, .inl x) => .returned (.tuple #[.int .i64 n, .int .i64 x])
  | (_, .inr op) => .panicked [{ v := crashI op, recovered := false }]
def AEnds (B D M : Nat) (F : List Ent) (w : World) (r : OutN) (e : Ending) (w' : World) : Prop :=
  ∃ F', e = endA r.1 ∧ DkAt w' B D M r.2.1 F' ∧ DkCh D M F F' w w' ∧ fsOf F' = r.2.2
section
variable {w : World} {B D M : Nat} {d : Dk} {F : List Ent}
theorem mAppend (h : DkAt w B D M d F) (ok : FsOk d (fsOf F)) (nm : ByteArray) (hs : nm.size ≤ 140737488355328) (A : Option Addr) (m c : Nat) (l : List UInt8) (hl : Bs w A m c l) (hBw : B ≤ w.heap.size) :
    Calls Try.prog 63 #[pD D, .string nm, .slice A m c] w (AEnds B D M F w (appO d (fsOf F) nm l)) := by
  have hm := hl.len
  unfold appO
  cases hn : nameD nm
  · rw [if_pos rfl]
    refine (dkAppend_name w D nm hs hn A m c).mono ?_
    rintro e w' ⟨rfl, rfl⟩
    exact ⟨F, rfl, h, DkCh.refl D M F w, rfl⟩
  · rw [if_neg (by decide)]
    by_cases h1 : d.armedIn = 1
    · rw [if_pos h1, hm]
      refine (dkAppend_lost h ok.ok ok.dk.lens nm hn hs A m c l hl hBw h1).mono ?_
      rintro e w' ⟨he, F', h2, h3, h4⟩
      exact ⟨F', he, h2, h3, h4⟩
    · rw [if_neg h1, hm]
      refine (dkAppend_ok h ok.ok ok.dk.lens nm hn hs A m c l hl hBw h1).mono ?_
      rintro e w' ⟨he, F', h2, h3, h4⟩
      exact ⟨F', he, h2, h3, h4⟩
end
/-- the three boxes of lay -/
structure LBox (w : World) (s D : Nat) (nm : ByteArray) (e : Int) : Prop where
  d_ : w.heap[s]? = some (.cells #[pD D] 35)
  n_ : w.heap[s + 1]? = some (.cells #[.string nm] 9)
  e_ : w.heap[s + 1 + 1]? = some (.cells #[.int .i64 e] 23)
abbrev lw (w : World) (D : Nat) (nm : ByteArray) : World := ((w.alloc (.cells #[pD D] 35)).alloc (.cells #[.string nm] 9)).alloc (.cells #[.int .i64 0] 23)
abbrev la (s : Nat) : Array Value := #[.pointer (some ⟨s + 1 + 1, 0, none⟩), .pointer (some ⟨s, 0, none⟩), .pointer (some ⟨s + 1, 0, none⟩)]
theorem LBox.new (w : World) (D : Nat) (nm : ByteArray) : LBox (lw w D nm) w.heap.size D nm 0 ∧ Below w.heap.size w (lw w D nm) ∧ (lw w D nm).heap.size = w.heap.size + 3 := by
  refine ⟨⟨?_, ?_, ?_⟩, ((Below.refl _ _).alloc (Nat.le_refl _) _).alloc (by simp) _ |>.alloc (by simp; omega) _, by simp⟩
  all_goals
    simp only [lw, World.alloc, Array.getElem?_push, Array.size_push]
  · rw [if_neg (by omega), if_neg (by omega), if_pos trivial]
  · rw [if_neg (by omega), if_pos trivial]
  · rw [if_pos trivial]
theorem LBox.same {w w' : World} {s D : Nat} {nm : ByteArray} {e : Int} (h : LBox w s D nm e) {S : Nat → Prop} (c : Ch S w w') (hS : ∀ k, s ≤ k → k < s + 3 → ¬ S k) : LBox w' s D nm e :=
  ⟨c.row h.d_ (hS _ (by omega) (by omega)), c.row h.n_ (hS _ (by omega) (by omega)), c.row h.e_ (hS _ (by omega) (by omega))⟩
theorem LBox.cells {w : World} {s D : Nat} {nm : ByteArray} {e : Int} (h : LBox w s D nm e) : w.cell? ⟨s, 0, none⟩ = some (pD D) ∧ w.cell? ⟨s + 1, 0, none⟩ = some (.string nm) ∧ w.cell? ⟨s + 1 + 1, 0, none⟩ = some (.int .i64 e) ∧ w.frozen? ⟨s + 1 + 1, 0, none⟩ = false :=
  ⟨cell_of_row _ _ 0 _ _ _ h.d_, cell_of_row _ _ 0 _ _ _ h.n_, cell_of_row _ _ 0 _ _ _ h.e_, by simp [World.frozen?, h.e_]⟩
theorem row_other' {w : World} {s t : Nat} {o : Obj} (h : w.heap[s]? = some o) (hne : s ≠ t) (v : Value) : (w.setCell ⟨t, 0, none⟩ v).heap[s]? = some o := by
  rw [heap_setCell_other _ _ _ _ (by show s ≠ t; exact hne)]; exact h
theorem LBox.setE {w : World} {s D : Nat} {nm : ByteArray} {e : Int} (h : LBox w s D nm e) (x : Int) : LBox (w.setCell ⟨s + 1 + 1, 0, none⟩ (.int .i64 x)) s D nm x ∧ Ch (At1 (s + 1 + 1)) w (w.setCell ⟨s + 1 + 1, 0, none⟩ (.int .i64 x)) :=
  ⟨⟨row_other' h.d_ (by omega) _, row_other' h.n_ (by omega) _, heap_set_row h.e_ _⟩, (Ch.refl _ _).set1 0 _⟩
set_option maxRecDepth 100000 in
theorem lay1_idle (s D : Nat) (nm : ByteArray) (u : FrameMode) (w : World) (hb : LBox w s D nm 0) :
    CallsD Try.prog 60 (la s) u w fun e u' w' => u' = u ∧ e = .returned (.tuple #[]) ∧ w' = w := by
  obtain ⟨c0, c1, c2, _⟩ := hb.cells
  refine callsD_of_wp Try.func60 rfl ?_
  rw [show la s ++ Array.replicate (Try.f60.ntmps - (la s).size) undef = #[.pointer (some ⟨s + 1 + 1, 0, none⟩), .pointer (some ⟨s, 0, none⟩), .pointer (some ⟨s + 1, 0, none⟩), undef, undef, undef, undef, undef] from by kernel_rfl]
  go_wp2_with (fail)
  go_end0
  exact ⟨rfl, rfl⟩
def LEnd (B D M : Nat) (F : List Ent) (w : World) (r : Out) (e : Ending) (w' : World) : Prop :=
  ∃ F', (e = match r.1 with | .inl _ => .returned (.tuple #[]) | .inr op => .panicked [{ v := crashI op, recovered := false }]) ∧ DkAt w' B D M r.2.1 F' ∧ DkCh D M F F' w w' ∧ fsOf F' = r.2.2
set_option maxRecDepth 100000 in
theorem lay1_rem (s : Nat) (u : FrameMode) {w : World} {B D M : Nat} {d : Dk} {F : List Ent} (nm : ByteArray) (x : Int) (hx : x ≠ 0) (hb : LBox w s D nm x) (h : DkAt w B D M d F) (ok : FsOk d (fsOf F)) :
    CallsD Try.prog 60 (la s) u w fun e u' w' => u' = u ∧ LEnd B D M F w (opRemove d (fsOf F) nm) e w' := by
  obtain ⟨c0, c1, c2, _⟩ := hb.cells
  have H := Lib.hid h
  have OK := Lib.hid ok
  have d1 : (x != 0) = true := by simpa using hx
  clear h ok hx
  refine callsD_of_wp Try.func60 rfl ?_
  rw [show la s ++ Array.replicate (Try.f60.ntmps - (la s).size) undef = #[.pointer (some ⟨s + 1 + 1, 0, none⟩), .pointer (some ⟨s, 0, none⟩), .pointer (some ⟨s + 1, 0, none⟩), undef, undef, undef, undef, undef] from by kernel_rfl]
  go_wp2_with (fail)
  refine (mRemove H.out OK.out nm).mono ?_
  rintro e w' ⟨F', he, h1, h2, h3⟩
  obtain ⟨r, hr⟩ : ∃ r, r = opRemove d (fsOf F) nm := ⟨_, rfl⟩
  rw [← hr] at he h1 h3 ⊢
  obtain ⟨y | op, d', fs'⟩ := r
  · obtain rfl : e = .returned (.int .i64 y) := he
    have HP : Hid (LEnd B D M F w (.inl y, d', fs') (.returned (.tuple #[])) w') := Lib.hid ⟨F', rfl, h1, h2, h3⟩
    have HR := Lib.hid hr
    clear h1 h2 h3 hr
    go_wp2_with (fail)
    go_end0
    rw [← HR.out]; exact HP.out
  · obtain rfl : e = .panicked [{ v := crashI op, recovered := false }] := he
    exact ⟨rfl, F', rfl, h1, h2, h3⟩
/-- what is done when it can't be laid -/
def layF_ (x : Int) (r : Out) : Out := match r.1 with | .inl _ => (.inl x, r.2) | .inr op => (.inr op, r.2)
/-- a number's bytes laid in a file, or not at all -/
def laySr (r : Out) (nm : ByteArray) : Out :=
  match r with
  | (.inr op, s) => (.inr op, s)
  | (.inl x, s) => if x = 0 then (.inl 0, s) else layF_ 5 (opRemove s.1 s.2 nm)
def layAr (r : OutN) (nm : ByteArray) (l : List UInt8) : Out :=
  match r with
  | ((_, .inr op), s) => (.inr op, s)
  | ((n, .inl _), s) => if n < (l.length : Int) then layF_ 4 (opRemove s.1 s.2 nm) else laySr (opSync s.1 s.2 nm) nm
def layT (r : Out) (nm : ByteArray) (l : List UInt8) : Out :=
  match r with
  | (.inr op, s) => (.inr op, s)
  | (.inl _, s) => layAr (appO s.1 s.2 nm l) nm l
def layD (d : Dk) (fs : Fs) (nm : ByteArray) (l : List UInt8) : Out := layT (opTrunc d fs nm 0) nm l
end Go.Proofs.Ytolomfdommnklaa

/- Layer 15: a number laid in a file, walked to its end. -/
namespace Go.Proofs.Ytolomfdommnklaa
open Go.RowKit Go.MapKept

section
variable {w w1 w2 w3 : World} {B D M s : Nat} {d d' : Dk} {F F' : List Ent}
theorem DkCh.off (c : DkCh D M F F' w1 w2) (hs : ∀ k, DFoot D M F k → k < s) (hs2 : s + 3 ≤ w1.heap.size) : ∀ k, s ≤ k → k < s + 3 → ¬ DFoot D M F' k := fun k h1 h2 hk => by
  rcases hk with hk | hk | hk
  · have := hs k (.inl hk); omega
  · have := hs k (.inr (.inl hk)); omega
  · rcases c.foot k hk with h5 | h5
    · have := hs k (.inr (.inr h5)); omega
    · omega
theorem DkCh.box3 (c : DkCh D M F F' w1 w2) (hs : ∀ k, DFoot D M F k → k < s) (hs2 : s + 3 ≤ w1.heap.size) (h2 : DkAt w2 B D M d' F') (c3 : Ch (At1 (s + 1 + 1)) w2 w3) : DkAt w3 B D M d' F' :=
  h2.ch c3 (fun k hk hb => c.off hs hs2 k (by rw [show k = s + 1 + 1 from hb]; omega) (by rw [show k = s + 1 + 1 from hb]; omega) hk)
theorem trunc_ops (d : Dk) (fs : Fs) (a : ByteArray) (n : Int) : (opTrunc d fs a n).2.1.ops ≤ d.ops + 1 := by
  have := callD_ops (d := d) (fs := fs) 1 n 0 a a []
  simpa [callD, liftO] using this
theorem sync_ops (d : Dk) (fs : Fs) (a : ByteArray) : (opSync d fs a).2.1.ops ≤ d.ops + 1 := by
  have := callD_ops (d := d) (fs := fs) 2 0 0 a a []
  simpa [callD, liftO] using this
theorem rename_ops (d : Dk) (fs : Fs) (a b : ByteArray) : (opRename d fs a b).2.1.ops ≤ d.ops + 1 := by
  have := callD_ops (d := d) (fs := fs) 3 0 0 a b []
  simpa [callD, liftO] using this
theorem remove_ops (d : Dk) (fs : Fs) (a : ByteArray) : (opRemove d fs a).2.1.ops ≤ d.ops + 1 := by
  have := callD_ops (d := d) (fs := fs) 4 0 0 a a []
  simpa [callD, liftO] using this
theorem app_ops (d : Dk) (fs : Fs) (a : ByteArray) (l : List UInt8) : (appO d fs a l).2.1.ops ≤ d.ops + 1 := by
  have := callD_ops (d := d) (fs := fs) 0 0 0 a a l
  simpa [callD] using this
theorem app_ok {d : Dk} {fs : Fs} (h : FsOk d fs) (ho : d.ops + 1 ≤ 1152921504606846976) (a : ByteArray) (l : List UInt8) : FsOk (appO d fs a l).2.1 (appO d fs a l).2.2 := by
  have := callD_ok h ho 0 0 0 (by decide) (by decide) a a l
  simpa [callD] using this
theorem app_num (d : Dk) (fs : Fs) (a : ByteArray) (l : List UInt8) : ∃ k : Nat, (appO d fs a l).1.1 = (k : Int) := by
  unfold appO
  split
  · exact ⟨0, rfl⟩
  · split
    · exact ⟨0, rfl⟩
    · exact ⟨_, rfl⟩

theorem Bs.off {w w' : World} {A : Option Addr} {n c : Nat} {l : List UInt8} {S : Nat → Prop} (h : Bs w A n c l) (hc : Ch S w w') (hn : ∀ b, A = some b → ¬ S b.block) : Bs w' A n c l := h.ch hc (fun _ b hb => hn b hb)
set_option maxHeartbeats 8000000 in
set_option maxRecDepth 100000 in
/-- the last part: a sync, and what is done when it fails -/
theorem lay_ (h : DkAt w B D M d F) (ok : FsOk d (fsOf F)) (ho : d.ops + 8 ≤ 1152921504606846976) (nm : ByteArray) (hs : nm.size ≤ 140737488355328) (A : Option Addr) (m c : Nat) (l : List UInt8) (hl : Bs w A m c l) (hBw : B ≤ w.heap.size)
    (hoff : ∀ b, A = some b → ¬ DFoot D M F b.block) :
    Calls Try.prog 43 #[pD D, .string nm, .slice A m c] w (MEnds B D M F w (layD d (fsOf F) nm l)) := by
  have hmf : ∀ (fn : Fn) (first cap : Array Value) (w : World), (Instr.makeFunc fn first cap).run Try.prog w = .ok (.func fn first cap) w := fun _ _ _ _ => rfl
  obtain ⟨hx0, hb0, hz0⟩ := LBox.new w D nm
  have HM := Lib.hid hl.len
  have H1 := Lib.hid (h.below hb0)
  have HB1 := Lib.hid hb0
  have HX1 := Lib.hid hx0
  have HZ1 : Hid (w.heap.size + 3 ≤ (lw w D nm).heap.size) := Lib.hid (by omega)
  have HL1 := Lib.hid (hl.below hb0)
  have HOFF := Lib.hid hoff
  have HFT : Hid (∀ k, DFoot D M F k → k < w.heap.size) := Lib.hid (fun k hk => (h.foot_lt hk).2)
  have OK := Lib.hid ok
  have HO := Lib.hid ho
  have HBW := Lib.hid hBw
  clear h hb0 hx0 hz0 ok ho hl hBw hoff
  go_enter_defers Try.func43, Try.ntmps43
  obtain ⟨c0, c1, _, _⟩ := HX1.out.cells
  go_wp2_with (fail)
  show Calls _ _ _ (lw w D nm) _
  generalize lw w D nm = w1 at *
  clear c0 c1
  refine (mTrunc H1.out OK.out nm 0).mono ?_
  rintro e w2 ⟨F2, he, h2, hc2, hf2⟩
  have hok2 := trunc_ok OK.out (by have := HO.out; omega) nm 0
  have hop2 := trunc_ops d (fsOf F) nm 0
  have HE : Hid (layD d (fsOf F) nm l = layT (opTrunc d (fsOf F) nm 0) nm l) := Lib.hid rfl
  generalize opTrunc d (fsOf F) nm 0 = r at he h2 hok2 hop2 hf2 HE
  have HX2 := Lib.hid (HX1.out.same hc2.ch (fun k h1 _ hk => by have := HFT.out k hk; omega))
  have H2 := Lib.hid h2
  have HC2 := Lib.hid hc2
  have HF2 := Lib.hid hf2
  have HK2 := Lib.hid hok2
  have HP2 : Hid (r.2.1.ops ≤ d.ops + 1) := Lib.hid hop2
  have HCW2 : Hid (DkCh D M F F2 w w2) := Lib.hid ((DkCh.of_below HB1.out).trans hc2)
  have HL2 : Hid (Bs w2 A m c l) := Lib.hid (HL1.out.off hc2.ch HOFF.out)
  have HOF2 : Hid (∀ b, A = some b → 0 < m → ¬ DFoot D M F2 b.block) := Lib.hid (fun b hb hm hk => by
    have hlt : b.block < w1.heap.size := by
      obtain ⟨g, o, e1, hlt, _⟩ := HL1.out.at_ hm
      rw [hb] at e1; injection e1 with e1; subst e1; exact hlt
    rcases hk with hk | hk | hk
    · exact HOFF.out b hb (.inl hk)
    · exact HOFF.out b hb (.inr (.inl hk))
    · rcases hc2.foot _ hk with h5 | h5
      · exact HOFF.out b hb (.inr (.inr h5))
      · omega)
  clear h2 hc2 hf2 hok2 hop2 HL1 H1
  obtain ⟨x | op, d2, fs2⟩ := r
  · have HE2 : Hid (layD d (fsOf F) nm l = layAr (appO d2 fs2 nm l) nm l) := HE
    obtain rfl : fsOf F2 = fs2 := HF2.out
    obtain rfl : e = .returned (.int .i64 x) := he
    clear HE HF2
    obtain ⟨c0, c1, _, _⟩ := HX2.out.cells
    go_wp2_with (fail)
    clear c0 c1
    refine (mAppend H2.out HK2.out nm hs A m c l HL2.out (Nat.le_trans HBW.out HCW2.out.ch.size)).mono ?_
    rintro e w3 ⟨F3, he, h3, hc3, hf3⟩
    have hok3 := app_ok HK2.out (by have := HO.out; have := HP2.out; omega) nm l
    have hop3 := app_ops d2 (fsOf F2) nm l
    have hnum := app_num d2 (fsOf F2) nm l
    generalize appO d2 (fsOf F2) nm l = r at he h3 hok3 hop3 hf3 HE2 hnum
    have HX3 := Lib.hid (HX2.out.same hc3.ch (fun k h1 h2 hk => HC2.out.off HFT.out HZ1.out k h1 h2 hk))
    have H3 := Lib.hid h3
    have HC3 := Lib.hid (HC2.out.trans hc3)
    have HF3 := Lib.hid hf3
    have HK3 := Lib.hid hok3
    have HP3 : Hid (r.2.1.ops ≤ d.ops + 2) := Lib.hid (by have h1 := HP2.out; have h2 : r.2.1.ops ≤ d2.ops + 1 := hop3; omega)
    have HCW3 : Hid (DkCh D M F F3 w w3) := Lib.hid (HCW2.out.trans hc3)
    clear h3 hc3 hf3 hok3 hop3 HX2 H2 HC2 HK2 HP2 HCW2 HL2 HOF2
    obtain ⟨⟨n, y | op⟩, d3, fs3⟩ := r
    · obtain ⟨n, rfl⟩ : ∃ k : Nat, n = (k : Int) := hnum
      have HE3 : Hid (layD d (fsOf F) nm l = if (n : Int) < (l.length : Int) then layF_ 4 (opRemove d3 fs3 nm) else laySr (opSync d3 fs3 nm) nm) := HE2
      rw [HM.out] at HE3
      obtain rfl : fsOf F3 = fs3 := HF3.out
      obtain rfl : e = .returned (.tuple #[.int .i64 (n : Int), .int .i64 y]) := he
      clear HE2 HF3
      obtain ⟨c0, c1, _, f2⟩ := HX3.out.cells
      by_cases hlt : n < m
      · have e1 : decide ((n : Int) < (m : Int)) = true := by simp; omega
        have e2 : (n : Int) < (m : Int) := by omega
        have HE4 : Hid (layD d (fsOf F) nm l = layF_ 4 (opRemove d3 (fsOf F3) nm)) := Lib.hid (by rw [HE3.out, if_pos e2])
        clear HE3 hlt
        obtain ⟨hx4, hch4⟩ := HX3.out.setE 4
        have HX4 := Lib.hid hx4
        have H4 := Lib.hid (HC3.out.box3 HFT.out HZ1.out H3.out hch4)
        have HCW4 := Lib.hid (HCW3.out.later hch4 (fun k hk => by rw [show k = w.heap.size + 1 + 1 from hk]; omega))
        clear hx4 hch4
        go_wp2_with (fail)
        clear c0 c1 f2
        generalize w3.setCell ⟨w.heap.size + 1 + 1, 0, none⟩ (.int .i64 4) = w4 at *
        refine leaves_cons (f := 60) (args := la w.heap.size) (by simp) (by simp [go_sem]) ?_
        refine (lay1_rem w.heap.size _ nm 4 (by decide) HX4.out H4.out HK3.out).mono ?_
        rintro e u' w5 ⟨rfl, F5, he, h5, hc5, hf5⟩
        have hx5 := HX4.out.same hc5.ch (fun k h1 h2 hk => HC3.out.off HFT.out HZ1.out k h1 h2 hk)
        generalize opRemove d3 (fsOf F3) nm = r at he h5 hf5 HE4
        obtain ⟨z | op, d5, fs5⟩ := r
        · obtain rfl : e = .returned (.tuple #[]) := he
          obtain ⟨_, _, c2, _⟩ := hx5.cells
          rw [HE4.out]
          simp [Leaves, settle, results, Try.results43, go_sem, c2]
          exact ⟨F5, rfl, h5, HCW4.out.trans hc5, hf5⟩
        · obtain rfl : e = .panicked [{ v := crashI op, recovered := false }] := he
          rw [HE4.out]
          simp only [Leaves, raised]
          exact ⟨F5, rfl, h5, HCW4.out.trans hc5, hf5⟩
      · have e1 : decide ((n : Int) < (m : Int)) = false := by simp; omega
        have e2 : ¬ (n : Int) < (m : Int) := by omega
        have HE4 : Hid (layD d (fsOf F) nm l = laySr (opSync d3 (fsOf F3) nm) nm) := Lib.hid (by rw [HE3.out, if_neg e2])
        clear HE3 hlt
        go_wp2_with (fail)
        clear c0 c1 f2
        refine (mSync H3.out HK3.out nm).mono ?_
        rintro e w4 ⟨F4, he, h4, hc4, hf4⟩
        have hok4 := sync_ok HK3.out (by have := HO.out; have := HP3.out; omega) nm
        generalize opSync d3 (fsOf F3) nm = r at he h4 hok4 hf4 HE4
        have HX4 := Lib.hid (HX3.out.same hc4.ch (fun k h1 h2 hk => HC3.out.off HFT.out HZ1.out k h1 h2 hk))
        have H4 := Lib.hid h4
        have HC4 := Lib.hid (HC3.out.trans hc4)
        have HF4 := Lib.hid hf4
        have HK4 := Lib.hid hok4
        have HCW4 : Hid (DkCh D M F F4 w w4) := Lib.hid (HCW3.out.trans hc4)
        clear h4 hc4 hf4 hok4 HX3 H3 HC3 HK3 HP3 HCW3
        obtain ⟨x2 | op, d4, fs4⟩ := r
        · have HE5 : Hid (layD d (fsOf F) nm l = if x2 = 0 then (.inl 0, d4, fs4) else layF_ 5 (opRemove d4 fs4 nm)) := HE4
          obtain rfl : fsOf F4 = fs4 := HF4.out
          obtain rfl : e = .returned (.int .i64 x2) := he
          clear HE4 HF4
          obtain ⟨c0, c1, _, f2⟩ := HX4.out.cells
          by_cases hx2 : x2 = 0
          · subst hx2
            have HE6 : Hid (layD d (fsOf F) nm l = (.inl 0, d4, fsOf F4)) := Lib.hid (by rw [HE5.out, if_pos rfl])
            clear HE5
            obtain ⟨hx5, hch5⟩ := HX4.out.setE 0
            have HX5 := Lib.hid hx5
            have H5 := Lib.hid (HC4.out.box3 HFT.out HZ1.out H4.out hch5)
            have HCW5 := Lib.hid (HCW4.out.later hch5 (fun k hk => by rw [show k = w.heap.size + 1 + 1 from hk]; omega))
            clear hx5 hch5
            go_wp2_with (fail)
            clear c0 c1 f2
            generalize w4.setCell ⟨w.heap.size + 1 + 1, 0, none⟩ (.int .i64 0) = w5 at *
            refine leaves_cons (f := 60) (args := la w.heap.size) (by simp) (by simp [go_sem]) ?_
            refine (lay1_idle w.heap.size D nm _ w5 HX5.out).mono ?_
            rintro e u' w'' ⟨rfl, rfl, rfl⟩
            obtain ⟨_, _, c2, _⟩ := HX5.out.cells
            rw [HE6.out]
            simp [Leaves, settle, results, Try.results43, go_sem, c2]
            exact ⟨F4, rfl, H5.out, HCW5.out, rfl⟩
          · have e3 : (x2 != 0) = true := by simpa using hx2
            have HE6 : Hid (layD d (fsOf F) nm l = layF_ 5 (opRemove d4 (fsOf F4) nm)) := Lib.hid (by rw [HE5.out, if_neg hx2])
            clear HE5 hx2
            obtain ⟨hx5, hch5⟩ := HX4.out.setE 5
            have HX5 := Lib.hid hx5
            have H5 := Lib.hid (HC4.out.box3 HFT.out HZ1.out H4.out hch5)
            have HCW5 := Lib.hid (HCW4.out.later hch5 (fun k hk => by rw [show k = w.heap.size + 1 + 1 from hk]; omega))
            clear hx5 hch5
            go_wp2_with (fail)
            clear c0 c1 f2
            generalize w4.setCell ⟨w.heap.size + 1 + 1, 0, none⟩ (.int .i64 5) = w5 at *
            refine leaves_cons (f := 60) (args := la w.heap.size) (by simp) (by simp [go_sem]) ?_
            refine (lay1_rem w.heap.size _ nm 5 (by decide) HX5.out H5.out HK4.out).mono ?_
            rintro e u' w6 ⟨rfl, F6, he, h6, hc6, hf6⟩
            have hx6 := HX5.out.same hc6.ch (fun k h1 h2 hk => HC4.out.off HFT.out HZ1.out k h1 h2 hk)
            generalize opRemove d4 (fsOf F4) nm = r at he h6 hf6 HE6
            obtain ⟨z | op, d6, fs6⟩ := r
            · obtain rfl : e = .returned (.tuple #[]) := he
              obtain ⟨_, _, c2, _⟩ := hx6.cells
              rw [HE6.out]
              simp [Leaves, settle, results, Try.results43, go_sem, c2]
              exact ⟨F6, rfl, h6, HCW5.out.trans hc6, hf6⟩
            · obtain rfl : e = .panicked [{ v := crashI op, recovered := false }] := he
              rw [HE6.out]
              simp only [Leaves, raised]
              exact ⟨F6, rfl, h6, HCW5.out.trans hc6, hf6⟩
        · have HE5 : Hid (layD d (fsOf F) nm l = (.inr op, d4, fs4)) := HE4
          obtain rfl : e = .panicked [{ v := crashI op, recovered := false }] := he
          show Leaves _ _ _ _ _ _ _
          refine leaves_cons (f := 60) (args := la w.heap.size) (by simp) (by simp [go_sem]) ?_
          refine (lay1_idle w.heap.size D nm _ w4 HX4.out).mono ?_
          rintro e u' w'' ⟨rfl, rfl, rfl⟩
          rw [HE5.out]
          simp only [Leaves, settle]
          exact ⟨F4, rfl, H4.out, HCW4.out, HF4.out⟩
    · have HE3 : Hid (layD d (fsOf F) nm l = (.inr op, d3, fs3)) := HE2
      obtain rfl : e = .panicked [{ v := crashI op, recovered := false }] := he
      show Leaves _ _ _ _ _ _ _
      refine leaves_cons (f := 60) (args := la w.heap.size) (by simp) (by simp [go_sem]) ?_
      refine (lay1_idle w.heap.size D nm _ w3 HX3.out).mono ?_
      rintro e u' w'' ⟨rfl, rfl, rfl⟩
      rw [HE3.out]
      simp only [Leaves, settle]
      exact ⟨F3, rfl, H3.out, HCW3.out, HF3.out⟩
  · have HE2 : Hid (layD d (fsOf F) nm l = (.inr op, d2, fs2)) := HE
    obtain rfl : e = .panicked [{ v := crashI op, recovered := false }] := he
    show Leaves _ _ _ _ _ _ _
    refine leaves_cons (f := 60) (args := la w.heap.size) (by simp) (by simp [go_sem]) ?_
    refine (lay1_idle w.heap.size D nm _ w2 HX2.out).mono ?_
    rintro e u' w'' ⟨rfl, rfl, rfl⟩
    rw [HE2.out]
    simp only [Leaves, settle]
    exact ⟨F2, rfl, H2.out, HCW2.out, HF2.out⟩
end
end Go.Proofs.Ytolomfdommnklaa

/- Layer 15: Save and Load, walked. -/
namespace Go.Proofs.Ytolomfdommnklaa
open Go.RowKit Go.MapKept

/-- the name that a file has till its number is laid as a whole -/
def tmpN (nm : ByteArray) : ByteArray := nm ++ ⟨#[46, 116, 109, 112]⟩
theorem tmpN_size (nm : ByteArray) : (tmpN nm).size = nm.size + 4 := by unfold tmpN; simp [ByteArray.size_append]; rfl
def saveL (r : Out) (nm : ByteArray) : Out :=
  match r with
  | (.inr op, s) => (.inr op, s)
  | (.inl x, s) => if x = 0 then opRename s.1 s.2 (tmpN nm) nm else (.inl x, s)
def saveD (d : Dk) (fs : Fs) (nm : ByteArray) (n : Int) : Out :=
  if nameD nm = false ∨ nameD (tmpN nm) = false then (.inl 16, d, fs)
  else if 0 ≤ n ∧ n ≤ 1099511627776 then saveL (layD d fs (tmpN nm) (bytesD n.toNat)) nm else (.inl 3, d, fs)
def loadD (fs : Fs) (nm : ByteArray) : Int × Int := match fget fs nm with | none => (0, 0) | some f => numD f.bs
theorem layF_ok {x : Int} {r : Out} {k : Int} (h : FsOk r.2.1 r.2.2) (ho : r.2.1.ops ≤ k) : FsOk (layF_ x r).2.1 (layF_ x r).2.2 ∧ (layF_ x r).2.1.ops ≤ k := by
  obtain ⟨y | op, d, fs⟩ := r
  · exact ⟨h, ho⟩
  · exact ⟨h, ho⟩
theorem layD_ok {d : Dk} {fs : Fs} (ok : FsOk d fs) (ho : d.ops + 8 ≤ 1152921504606846976) (nm : ByteArray) (l : List UInt8) : FsOk (layD d fs nm l).2.1 (layD d fs nm l).2.2 ∧ (layD d fs nm l).2.1.ops ≤ d.ops + 4 := by
  unfold layD
  have h1 := trunc_ok ok (by omega) nm 0
  have o1 := trunc_ops d fs nm 0
  generalize opTrunc d fs nm 0 = r at h1 o1
  obtain ⟨x | op, d2, fs2⟩ := r
  · have o1' : d2.ops ≤ d.ops + 1 := o1
    show FsOk (layAr (appO d2 fs2 nm l) nm l).2.1 (layAr (appO d2 fs2 nm l) nm l).2.2 ∧ (layAr (appO d2 fs2 nm l) nm l).2.1.ops ≤ d.ops + 4
    have h2 := app_ok h1 (by show d2.ops + 1 ≤ _; omega) nm l
    have o2 := app_ops d2 fs2 nm l
    generalize appO d2 fs2 nm l = r at h2 o2
    obtain ⟨⟨n, y | op⟩, d3, fs3⟩ := r
    · have o2' : d3.ops ≤ d2.ops + 1 := o2
      show FsOk (if n < (l.length : Int) then layF_ 4 (opRemove d3 fs3 nm) else laySr (opSync d3 fs3 nm) nm).2.1 (if n < (l.length : Int) then layF_ 4 (opRemove d3 fs3 nm) else laySr (opSync d3 fs3 nm) nm).2.2 ∧ (if n < (l.length : Int) then layF_ 4 (opRemove d3 fs3 nm) else laySr (opSync d3 fs3 nm) nm).2.1.ops ≤ d.ops + 4
      split
      · exact layF_ok (remove_ok h2 (by show d3.ops + 1 ≤ _; omega) nm) (by have := remove_ops d3 fs3 nm; omega)
      · have h3 := sync_ok h2 (by show d3.ops + 1 ≤ _; omega) nm
        have o3 := sync_ops d3 fs3 nm
        generalize opSync d3 fs3 nm = r at h3 o3
        obtain ⟨x2 | op, d4, fs4⟩ := r
        · have o3' : d4.ops ≤ d3.ops + 1 := o3
          show FsOk (if x2 = 0 then ((.inl 0, d4, fs4) : Out) else layF_ 5 (opRemove d4 fs4 nm)).2.1 (if x2 = 0 then ((.inl 0, d4, fs4) : Out) else layF_ 5 (opRemove d4 fs4 nm)).2.2 ∧ (if x2 = 0 then ((.inl 0, d4, fs4) : Out) else layF_ 5 (opRemove d4 fs4 nm)).2.1.ops ≤ d.ops + 4
          split
          · exact ⟨h3, by show d4.ops ≤ _; omega⟩
          · exact layF_ok (remove_ok h3 (by show d4.ops + 1 ≤ _; omega) nm) (by have := remove_ops d4 fs4 nm; omega)
        · exact ⟨h3, by have o3' : d4.ops ≤ d3.ops + 1 := o3; show d4.ops ≤ _; omega⟩
    · exact ⟨h2, by have o2' : d3.ops ≤ d2.ops + 1 := o2; show d3.ops ≤ _; omega⟩
  · exact ⟨h1, by have o1' : d2.ops ≤ d.ops + 1 := o1; show d2.ops ≤ _; omega⟩
theorem saveD_ok {d : Dk} {fs : Fs} (ok : FsOk d fs) (ho : d.ops + 8 ≤ 1152921504606846976) (nm : ByteArray) (n : Int) : FsOk (saveD d fs nm n).2.1 (saveD d fs nm n).2.2 ∧ (saveD d fs nm n).2.1.ops ≤ d.ops + 5 := by
  unfold saveD
  split
  · exact ⟨ok, by show d.ops ≤ _; omega⟩
  split
  · obtain ⟨h1, o1⟩ := layD_ok ok ho (tmpN nm) (bytesD n.toNat)
    generalize layD d fs (tmpN nm) (bytesD n.toNat) = r at h1 o1
    obtain ⟨x | op, d2, fs2⟩ := r
    · have o1' : d2.ops ≤ d.ops + 4 := o1
      show FsOk (if x = 0 then opRename d2 fs2 (tmpN nm) nm else ((.inl x, d2, fs2) : Out)).2.1 (if x = 0 then opRename d2 fs2 (tmpN nm) nm else ((.inl x, d2, fs2) : Out)).2.2 ∧ (if x = 0 then opRename d2 fs2 (tmpN nm) nm else ((.inl x, d2, fs2) : Out)).2.1.ops ≤ d.ops + 5
      split
      · exact ⟨rename_ok h1 (by show d2.ops + 1 ≤ _; omega) _ _, by have := rename_ops d2 fs2 (tmpN nm) nm; omega⟩
      · exact ⟨h1, by show d2.ops ≤ _; omega⟩
    · exact ⟨h1, by have o1' : d2.ops ≤ d.ops + 4 := o1; show d2.ops ≤ _; omega⟩
  · exact ⟨ok, by show d.ops ≤ _; omega⟩
theorem curTemp (nm : ByteArray) (hs : nm.size ≤ 140737488355000) (w : World) : Calls Try.prog 13 #[.string nm] w fun e w' => e = .returned (.string (tmpN nm)) ∧ w = w' := by
  have h1 : ¬ 9223372036854775807 < nm.size + 4 := by omega
  have HT : Hid (tmpN nm = nm ++ ⟨#[46, 116, 109, 112]⟩) := Lib.hid rfl
  go_enter Try.func13, Try.ntmps13
  go_wp2_with (fail)
  go_ret
  rw [HT.out]
  exact ⟨rfl, rfl⟩
section
variable {w : World} {B D M : Nat} {d : Dk} {F : List Ent}
set_option maxHeartbeats 4000000 in
set_option maxRecDepth 100000 in
theorem curSave (h : DkAt w B D M d F) (ok : FsOk d (fsOf F)) (ho : d.ops + 8 ≤ 1152921504606846976) (nm : ByteArray) (hs : nm.size ≤ 140737488355000) (n : Int) (hBw : B ≤ w.heap.size) :
    Calls Try.prog 19 #[pD D, .string nm, .int .i64 n] w (MEnds B D M F w (saveD d (fsOf F) nm n)) := by
  have H := Lib.hid h
  have OK := Lib.hid ok
  have HO := Lib.hid ho
  have HBW := Lib.hid hBw
  have HE : Hid (saveD d (fsOf F) nm n = if nameD nm = false ∨ nameD (tmpN nm) = false then (.inl 16, d, fsOf F) else if 0 ≤ n ∧ n ≤ 1099511627776 then saveL (layD d (fsOf F) (tmpN nm) (bytesD n.toNat)) nm else (.inl 3, d, fsOf F)) := Lib.hid rfl
  have HSZ : Hid (nm.size ≤ 140737488355000) := Lib.hid hs
  clear h ok ho hBw hs
  go_enter Try.func19, Try.ntmps19
  go_wp2_with (fail)
  refine (curTemp nm HSZ.out w).mono ?_
  rintro e w1 ⟨rfl, rfl⟩
  go_wp2_with (fail)
  refine (fnRight nm w (by have := HSZ.out; omega)).mono ?_
  rintro e w1 ⟨rfl, rfl⟩
  cases hn : nameD nm
  · have HE2 : Hid (saveD d (fsOf F) nm n = (.inl 16, d, fsOf F)) := Lib.hid (by rw [HE.out, if_pos (.inl hn)])
    go_wp2_with (fail)
    go_ret
    rw [HE2.out]
    exact ⟨F, rfl, H.out, DkCh.refl D M F w, rfl⟩
  · go_wp2_with (fail)
    refine (fnRight (tmpN nm) w (by rw [tmpN_size]; have := HSZ.out; omega)).mono ?_
    rintro e w1 ⟨rfl, rfl⟩
    cases ht : nameD (tmpN nm)
    · have HE2 : Hid (saveD d (fsOf F) nm n = (.inl 16, d, fsOf F)) := Lib.hid (by rw [HE.out, if_pos (.inr ht)])
      go_wp2_with (fail)
      go_ret
      rw [HE2.out]
      exact ⟨F, rfl, H.out, DkCh.refl D M F w, rfl⟩
    · go_wp2_with (fail)
      by_cases hr : 0 ≤ n ∧ n ≤ 1099511627776
      · obtain ⟨N, rfl⟩ : ∃ N : Nat, n = (N : Int) := ⟨n.toNat, by omega⟩
        have HE2 : Hid (saveD d (fsOf F) nm (N : Int) = saveL (layD d (fsOf F) (tmpN nm) (bytesD N)) nm) := Lib.hid (by rw [HE.out, if_neg (by rw [hn, ht]; decide), if_pos hr]; rfl)
        clear HE
        refine (curBytes N (by omega) w).mono ?_
        rintro e w1 ⟨g, rfl, hg, hrow, hb1⟩
        have HBS : Hid (Bs w1 (some ⟨g, 0, none⟩) 12 12 (bytesD N)) := Lib.hid (Bs.block hrow rfl (by decide))
        have H1 := Lib.hid (H.out.below hb1)
        have HB1 := Lib.hid hb1
        have HOFF : Hid (∀ b, some (⟨g, 0, none⟩ : Addr) = some b → ¬ DFoot D M F b.block) := Lib.hid (fun b hb hk => by
          injection hb with hb; subst hb
          have := (H.out.foot_lt hk).2
          simp only at this; omega)
        clear hg hrow hb1 hr hn ht
        go_wp2_with (fail)
        refine (lay_ H1.out OK.out HO.out (tmpN nm) (by rw [tmpN_size]; have := HSZ.out; omega) _ 12 12 (bytesD N) HBS.out (Nat.le_trans HBW.out HB1.out.size) HOFF.out).mono ?_
        rintro e w2 ⟨F2, he, h2, hc2, hf2⟩
        obtain ⟨hok2, hop2⟩ := layD_ok OK.out HO.out (tmpN nm) (bytesD N)
        generalize layD d (fsOf F) (tmpN nm) (bytesD N) = r at he h2 hf2 hok2 hop2 HE2
        have H2 := Lib.hid h2
        have HC2 : Hid (DkCh D M F F2 w w2) := Lib.hid ((DkCh.of_below HB1.out).trans hc2)
        have HF2 := Lib.hid hf2
        have HK2 := Lib.hid hok2
        clear h2 hc2 hf2 hok2 hop2
        obtain ⟨x | op, d2, fs2⟩ := r
        · have HE3 : Hid (saveD d (fsOf F) nm (N : Int) = if x = 0 then opRename d2 fs2 (tmpN nm) nm else (.inl x, d2, fs2)) := HE2
          obtain rfl : fsOf F2 = fs2 := HF2.out
          obtain rfl : e = .returned (.int .i64 x) := he
          clear HE2 HF2
          by_cases hx : x = 0
          · subst hx
            have HE4 : Hid (saveD d (fsOf F) nm (N : Int) = opRename d2 (fsOf F2) (tmpN nm) nm) := Lib.hid (by rw [HE3.out, if_pos rfl])
            go_wp2_with (fail)
            refine (mRename H2.out HK2.out (tmpN nm) nm (by have := HSZ.out; omega)).mono ?_
            rintro e w3 ⟨F3, he, h3, hc3, hf3⟩
            generalize opRename d2 (fsOf F2) (tmpN nm) nm = r at he h3 hf3 HE4
            obtain ⟨y | op, d3, fs3⟩ := r
            · obtain rfl : e = .returned (.int .i64 y) := he
              have HP : Hid (MEnds B D M F w (saveD d (fsOf F) nm (N : Int)) (.returned (.int .i64 y)) w3) := Lib.hid (by rw [HE4.out]; exact ⟨F3, rfl, h3, HC2.out.trans hc3, hf3⟩)
              clear h3 hc3 hf3
              go_wp2_with (fail)
              go_ret
              exact HP.out
            · obtain rfl : e = .panicked [{ v := crashI op, recovered := false }] := he
              exact ⟨rfl, by rw [HE4.out]; exact ⟨F3, rfl, h3, HC2.out.trans hc3, hf3⟩⟩
          · have d1 : (x != 0) = true := by simpa using hx
            have HP : Hid (MEnds B D M F w (saveD d (fsOf F) nm (N : Int)) (.returned (.int .i64 x)) w2) := Lib.hid (by rw [HE3.out, if_neg hx]; exact ⟨F2, rfl, H2.out, HC2.out, rfl⟩)
            clear hx
            go_wp2_with (fail)
            go_ret
            exact HP.out
        · have HE3 : Hid (saveD d (fsOf F) nm (N : Int) = (.inr op, d2, fs2)) := HE2
          obtain rfl : e = .panicked [{ v := crashI op, recovered := false }] := he
          exact ⟨rfl, by rw [HE3.out]; exact ⟨F2, rfl, H2.out, HC2.out, HF2.out⟩⟩
      · have HE2 : Hid (saveD d (fsOf F) nm n = (.inl 3, d, fsOf F)) := Lib.hid (by rw [HE.out, if_neg (by rw [hn, ht]; decide), if_neg hr])
        refine (curBytes_no n hr w).mono ?_
        rintro e w1 ⟨rfl, rfl⟩
        clear hr
        go_wp2_with (fail)
        go_ret
        rw [HE2.out]
        exact ⟨F, rfl, H.out, DkCh.refl D M F w, rfl⟩
theorem curLoad (h : DkAt w B D M d F) (hlen : FileLens F) (nm : ByteArray) :
    Calls Try.prog 29 #[pD D, .string nm] w fun e w' => e = .returned (.tuple #[.int .i64 (loadD (fsOf F) nm).1, .int .i64 (loadD (fsOf F) nm).2]) ∧ Below w.heap.size w w' := by
  have HL : Hid (loadD (fsOf F) nm = match fget (fsOf F) nm with | none => (0, 0) | some f => numD f.bs) := Lib.hid rfl
  have H := Lib.hid h
  have HLN := Lib.hid hlen
  clear h hlen
  go_enter Try.func29, Try.ntmps29
  go_wp2_with (fail)
  cases hf : fget (fsOf F) nm with
  | none =>
    have HE : Hid (loadD (fsOf F) nm = (0, 0)) := Lib.hid (by rw [HL.out, hf])
    refine (dkRead_none H.out nm (fget_no hf)).mono ?_
    rintro e w1 ⟨rfl, rfl⟩
    go_wp2_with (fail)
    go_ret2
    rw [HE.out]
    exact ⟨rfl, Below.refl _ _⟩
  | some f =>
    have HE : Hid (loadD (fsOf F) nm = numD f.bs) := Lib.hid (by rw [HL.out, hf])
    have hmax : f.bs.length ≤ 1073741824 := by
      obtain ⟨P, g3, v3, Q, e3, _⟩ := fget_mid hf
      have := HLN.out ⟨nm, g3, v3, f⟩ (by rw [e3]; simp)
      simpa using this
    refine (dkRead_some H.out HLN.out nm f hf).mono ?_
    rintro e w1 ⟨g, rfl, hg, hrow, hb1⟩
    have HB1 := Lib.hid hb1
    have HBS : Hid (Bs w1 (some ⟨g, 0, none⟩) f.bs.length f.bs.length f.bs) := Lib.hid (Bs.block hrow rfl (by unfold maxLen; omega))
    clear hg hrow hb1
    go_wp2_with (fail)
    refine (curNumber _ _ _ f.bs w1 HBS.out (by omega)).mono ?_
    rintro e w2 ⟨rfl, hb2⟩
    have HB2 : Hid (Below w.heap.size w w2) := Lib.hid (HB1.out.trans (hb2.mono HB1.out.size))
    clear hb2 hmax
    go_wp2_with (fail)
    go_ret2
    rw [HE.out]
    exact ⟨rfl, HB2.out⟩
end
end Go.Proofs.Ytolomfdommnklaa

/- Layer 15: a number that is saved is told; the law's examples. -/
namespace Go.Proofs.Ytolomfdommnklaa
open Go.RowKit Go.MapKept

theorem bytesD_open (n : Nat) : openOk (bytesD n) = true := by
  unfold openOk
  rw [show (bytesD n).length = 12 from rfl, show (bytesD n).take (12 - 4) = be8 n from rfl, show (bytesD n).drop (12 - 4) = be4 (Crc.sum 0 (be8 n)) from rfl]
  simp
theorem valD_be8 {n : Nat} (h : n ≤ 1099511627776) : valD (be8 n) = n := by
  simp only [valD, be8, List.foldl_cons, List.foldl_nil, UInt8.toNat_ofNat']
  omega
theorem numD_bytes {n : Nat} (h : n ≤ 1099511627776) : numD (bytesD n) = ((n : Int), 0) := by
  have hg : openGet (bytesD n) = be8 n := by unfold openGet; rw [if_pos (bytesD_open n)]; rfl
  unfold numD
  rw [if_neg (by rw [show (bytesD n).length = 12 from rfl]; decide), if_neg (by rw [bytesD_open]; decide), hg, valD_be8 h, if_neg (by omega)]
theorem fget_app_new : ∀ {fs : Fs} {t : ByteArray} (v : Fl), fget fs t = none → fget (fs ++ [(t, v)]) t = some v
  | [], t, v, _ => by simp [fget]
  | (a, u) :: r, t, v, h => by
    unfold fget at h
    split at h
    · cases h
    · rename_i hne
      rw [List.cons_append]
      unfold fget
      rw [if_neg hne]
      exact fget_app_new v h
theorem fput_app_new : ∀ {fs : Fs} {t : ByteArray} (v u : Fl), fget fs t = none → fput (fs ++ [(t, v)]) t u = fs ++ [(t, u)]
  | [], t, v, u, _ => by simp [fput]
  | (a, x) :: r, t, v, u, h => by
    unfold fget at h
    split at h
    · cases h
    · rename_i hne
      rw [List.cons_append]
      unfold fput
      rw [if_neg hne, fput_app_new v u h]; rfl
theorem fdel_app_ne : ∀ {fs : Fs} {t nm : ByteArray} (v : Fl), nm ≠ t → fdel (fs ++ [(t, v)]) nm = fdel fs nm ++ [(t, v)]
  | [], t, nm, v, h => by simp [fdel, h]
  | (a, x) :: r, t, nm, v, h => by
    rw [List.cons_append]
    unfold fdel
    split
    · rfl
    · rw [fdel_app_ne v h]; rfl
theorem fdel_app_new : ∀ {fs : Fs} {t : ByteArray} (v : Fl), fget fs t = none → fdel (fs ++ [(t, v)]) t = fs
  | [], t, v, _ => by simp [fdel]
  | (a, x) :: r, t, v, h => by
    unfold fget at h
    split at h
    · cases h
    · rename_i hne
      rw [List.cons_append]
      unfold fdel
      rw [if_neg hne, fdel_app_new v h]
theorem fget_app_ne : ∀ {fs : Fs} {t nm : ByteArray} (v : Fl), nm ≠ t → fget (fs ++ [(t, v)]) nm = fget fs nm
  | [], t, nm, v, h => by simp [fget, h]
  | (a, x) :: r, t, nm, v, h => by
    rw [List.cons_append]
    unfold fget
    split
    · rfl
    · exact fget_app_ne v h
theorem flen_app_ne {fs : Fs} {t nm : ByteArray} (v : Fl) (h : nm ≠ t) : flen (fs ++ [(t, v)]) nm = flen fs nm := by
  unfold flen; rw [fget_app_ne v h]
theorem tmpN_ne (nm : ByteArray) : nm ≠ tmpN nm := fun e => by
  have := congrArg ByteArray.size e
  rw [tmpN_size] at this; omega
/-- a save on a disk that is as it should be, and has room -/
theorem saveD_good {d : Dk} {fs : Fs} {nm : ByteArray} {n : Nat} (hn : n ≤ 1099511627776) (h1 : nameD nm = true) (h2 : nameD (tmpN nm) = true) (ha : d.armedIn = 0) (hf : d.failIn = 0) (hr : d.used + 12 ≤ d.room) (hno : fget fs (tmpN nm) = none) :
    saveD d fs nm (n : Int) = (.inl 0, { d with used := d.used + 12 - (flen fs nm : Int), ops := d.ops + 3 }, fdel fs nm ++ [(nm, ⟨bytesD n, 12⟩)]) := by
  have hne := tmpN_ne nm
  unfold saveD
  rw [if_neg (by rw [h1, h2]; decide), if_pos ⟨by omega, by omega⟩, Int.toNat_natCast]
  generalize hb : bytesD n = l
  have hl : l.length = 12 := by rw [← hb]; rfl
  have e1 : opTrunc d fs (tmpN nm) 0 = (.inl 6, d, fs) := by unfold opTrunc; rw [hno]
  have hN : appN d 12 = 12 := by unfold appN; omega
  have hb0 : d.begin = { d with ops := d.ops + 1 } := by unfold Dk.begin; rw [if_pos ha]; cases d; simp at ha; simp [ha]
  have e2 : appO d fs (tmpN nm) l = ((12, .inl 0), { d with used := d.used + 12, ops := d.ops + 1 }, fs ++ [(tmpN nm, ⟨l, 0⟩)]) := by
    unfold appO
    rw [if_neg (by rw [h2]; decide), if_neg (by rw [ha]; decide), hl, hN, hb0]
    have : appE d 12 = 0 := by unfold appE; rw [hN]; rfl
    rw [this]
    unfold layF
    rw [hno, List.take_of_length_le (by omega), fput_new _ hno]
    rfl
  have e3 : opSync { d with used := d.used + 12, ops := d.ops + 1 } (fs ++ [(tmpN nm, ⟨l, 0⟩)]) (tmpN nm) = (.inl 0, { d with used := d.used + 12, ops := d.ops + 2 }, fs ++ [(tmpN nm, ⟨l, 12⟩)]) := by
    unfold opSync
    rw [fget_app_new _ hno]
    simp only
    rw [fput_app_new _ _ hno]
    unfold opChange
    rw [if_neg (by rw [ha]; decide)]
    obtain ⟨r, u, o, fl, ar, ak⟩ := d
    simp only at ha hf
    subst ha hf
    simp only [Dk.syncs, Dk.begin, syncErr, syncFl, if_true]
    rw [hl]
    simp only [show ((0 : Int) == 1) = false from rfl, Bool.false_eq_true, if_false]
    congr 2
    congr 1
    omega
  have e4 : opRename { d with used := d.used + 12, ops := d.ops + 2 } (fs ++ [(tmpN nm, ⟨l, 12⟩)]) (tmpN nm) nm = (.inl 0, { d with used := d.used + 12 - (flen fs nm : Int), ops := d.ops + 3 }, fdel fs nm ++ [(nm, ⟨l, 12⟩)]) := by
    unfold opRename
    rw [fget_app_new _ hno]
    simp only
    rw [if_neg (by rw [h1]; decide), if_neg (fun e => hne e.symm), flen_app_ne _ hne, fdel_app_ne _ hne, fdel_app_new _ (by rw [fget_fdel_ne hne]; exact hno)]
    unfold opChange
    rw [if_neg (by rw [ha]; decide)]
    obtain ⟨r, u, o, fl, ar, ak⟩ := d
    simp only at ha hf
    subst ha hf
    simp only [Dk.begin, if_true]
    congr 2
    congr 1
    omega
  unfold layD
  rw [e1]
  show saveL (layAr (appO d fs (tmpN nm) l) (tmpN nm) l) nm = _
  rw [e2]
  show saveL (if (12 : Int) < (l.length : Int) then _ else laySr (opSync { d with used := d.used + 12, ops := d.ops + 1 } (fs ++ [(tmpN nm, ⟨l, 0⟩)]) (tmpN nm)) (tmpN nm)) nm = _
  rw [if_neg (by rw [hl]; decide), e3]
  exact e4
abbrev nmC : ByteArray := ⟨#[99]⟩
theorem nameC : nameD nmC = true ∧ nameD (tmpN nmC) = true := by decide +kernel
theorem newDk_ok (r : Int) (h : 0 ≤ r ∧ r ≤ 1073741824) : FsOk ⟨r, 0, 0, 0, 0, 0⟩ (fsOf []) :=
  ⟨⟨h, ⟨by simp, by simp⟩, ⟨by simp, by simp⟩, ⟨by simp, by simp⟩, ⟨by simp, by simp⟩, ⟨by simp, by simp⟩⟩, rfl, fun e he => (by cases he), List.nodup_nil⟩
set_option maxHeartbeats 4000000 in
set_option maxRecDepth 100000 in
theorem curAlive (w : World) : Calls Try.prog 12 #[] w (True_ w) := by
  go_enter Try.func12, Try.ntmps12
  go_wp2_with (fail)
  refine (curBytes 258 (by decide) w).mono ?_
  rintro e w1 ⟨g, rfl, hg, hrow, hb1⟩
  have HR1 := Lib.hid hrow
  have HB1 := Lib.hid hb1
  clear hg hrow hb1
  go_wp2_with (fail)
  refine (dkNew 100 (by decide) w1).mono ?_
  rintro e w2 ⟨D, M, rfl, h2, hb2⟩
  have hrow2 := (hb2.block g (Array.getElem?_eq_some_iff.1 HR1.out).1).trans HR1.out
  have H2 := Lib.hid h2
  have HB2 : Hid (Below w.heap.size w w2) := Lib.hid (HB1.out.trans (hb2.mono HB1.out.size))
  have HZ2 : Hid (w1.heap.size ≤ w2.heap.size) := Lib.hid hb2.size
  have HWZ : Hid (w.heap.size ≤ w1.heap.size) := Lib.hid HB1.out.size
  have hcv := (Bs.of_block (n := 8) (c := 12) (cur := u8s (bytesD 258)) (l := be8 258) hrow2 rfl rfl (by decide) (by decide)).str (P := Try.prog) 22 5 9 Try.underlying22 Try.underlying5 Try.underlying9
  rw [show txt (be8 258) = (⟨#[0, 0, 0, 0, 0, 0, 1, 2]⟩ : ByteArray) from by decide +kernel] at hcv
  clear h2 hb2 hrow2 HR1 HB1
  go_wp2_with (fail)
  clear hcv
  have hok := newDk_ok 100 (by decide)
  refine (curSave H2.out hok (by decide) nmC (by decide) 7 HZ2.out).mono ?_
  rw [show saveD ⟨100, 0, 0, 0, 0, 0⟩ (fsOf []) nmC 7 = (.inl 0, ⟨100, 12, 3, 0, 0, 0⟩, [(nmC, ⟨bytesD 7, 12⟩)]) from saveD_good (n := 7) (by decide) nameC.1 nameC.2 rfl rfl (by decide) rfl]
  rintro e w3 ⟨F3, he, h3, hc3, hf3⟩
  obtain rfl : e = .returned (.int .i64 0) := he
  have H3 := Lib.hid h3
  have HB3 : Hid (Below w.heap.size w w3) := Lib.hid (HB2.out.trans ((DkCh.below H2.out hc3 HZ2.out).mono HWZ.out))
  have HF3 := Lib.hid hf3
  have HL3 : Hid (FileLens F3) := Lib.hid (fun e he => by
    have h1 : (e.nm, e.f) ∈ fsOf F3 := List.mem_map.2 ⟨e, he, rfl⟩
    rw [hf3] at h1
    have h2 := List.mem_singleton.1 h1
    injection h2 with _ h2
    rw [h2]
    decide)
  clear h3 hc3 hf3 hok
  go_wp2_with (fail)
  refine (curLoad H3.out HL3.out nmC).mono ?_
  rw [show loadD (fsOf F3) nmC = (7, 0) from by rw [HF3.out]; exact numD_bytes (n := 7) (by decide)]
  rintro e w4 ⟨rfl, hb4⟩
  have H4 := Lib.hid (H3.out.below hb4)
  have HB4 : Hid (Below w.heap.size w w4) := Lib.hid (HB3.out.trans (hb4.mono HB3.out.size))
  clear hb4
  go_wp2_with (fail)
  refine (dkUsed H4.out).mono ?_
  rintro e w5 ⟨rfl, rfl⟩
  go_wp2_with (fail)
  go_ret
  exact ⟨rfl, HB4.out⟩
end Go.Proofs.Ytolomfdommnklaa

/- Layer 15: the document's numbers, walked. -/
namespace Go.Proofs.Ytolomfdommnklaa
open Go.RowKit Go.MapKept

theorem be8_next (N k : Nat) (hk : k < 8) : (be8 N).drop (7 - k) = UInt8.ofNat (N / 256 ^ k) :: (be8 N).drop (8 - k) := by
  have h : k = 0 ∨ k = 1 ∨ k = 2 ∨ k = 3 ∨ k = 4 ∨ k = 5 ∨ k = 6 ∨ k = 7 := by omega
  rcases h with rfl | rfl | rfl | rfl | rfl | rfl | rfl | rfl <;> simp [be8]
set_option maxHeartbeats 4000000 in
set_option maxRecDepth 100000 in
theorem refBytes15 (N : Nat) (hN : N ≤ 1099511627776) (w : World) : Calls Try.prog 14 #[.int .i64 (N : Int)] w (RetS (bytesD N) w) := by
  have HN := Lib.hid hN
  clear hN
  go_enter Try.func14, Try.ntmps14
  go_wp2_with (fail)
  go_loopw [4, 3, 0] (fun i o n wr => ∃ (k : Nat) (A : Option Addr) (c : Nat), k ≤ 8 ∧ i = .int .i64 k ∧ o = .slice A k c ∧ n = .int .i64 ((N / 256 ^ k : Nat) : Int) ∧ Bs wr A k c ((be8 N).drop (8 - k)) ∧ Below w.heap.size w wr) (fun i _ _ _ => 8 - (intOf i).toNat)
  case atStart => exact ⟨0, none, 0, by omega, rfl, rfl, by simp, Bs.none_ _, Below.refl _ _⟩
  case round =>
    obtain ⟨wo, rfl⟩ : ∃ wo : World, wo = wr := ⟨_, rfl⟩
    obtain ⟨k, A, c, hk, rfl, rfl, rfl, hbs, hb⟩ := hrel
    have HBS := Lib.hid hbs
    have HB := Lib.hid hb
    clear hbs hb
    by_cases h8 : k < 8
    · have HX := Lib.hid (be8_next N k h8)
      obtain ⟨n, hn⟩ : ∃ n, n = N / 256 ^ k := ⟨_, rfl⟩
      have HQ : Hid (N / 256 ^ (k + 1) = n / 256) := Lib.hid (by rw [hn, Nat.pow_succ, Nat.div_div_eq_div_mul])
      have hn2 : n ≤ 1099511627776 := by rw [hn]; exact Nat.le_trans (Nat.div_le_self _ _) HN.out
      rw [← hn] at HX ⊢
      have HL : Hid (IntKind.u8.wrap ((n : Int).tmod 256) = ((UInt8.ofNat n).toNat : Int)) := Lib.hid (by
        rw [Int.tmod_eq_emod_of_nonneg (by omega), IntKind.wrap_u8', u8_cast]; omega)
      have HT : Hid ((n : Int).tdiv 256 = ((n / 256 : Nat) : Int)) := Lib.hid (by rw [Int.tdiv_eq_ediv_of_nonneg (by omega)]; omega)
      have HN2 : Hid (n ≤ 1099511627776) := Lib.hid hn2
      have t1 := HL.out
      have t2 := HT.out
      have t3 : wrap64 ((n / 256 : Nat) : Int) = ((n / 256 : Nat) : Int) := IntWalk.wrap64_in _ (by omega)
      have tok1 : Hid True := Lib.hid trivial
      clear hn hn2
      go_wp2_with (at_builtin; have _t := tok1; go_loud ((refine wpList_app rfl (.tmp 12) (.tmp 13) 22 rfl w.heap.size 5 Try.underlying22 byteInfo _ [UInt8.ofNat n] rfl (by first | exact Own.lit 5 wo [UInt8.ofNat n] HB.out.size (by simp [maxLen]) | exact (t1 ▸ Own.lit 5 wo [UInt8.ofNat n] HB.out.size (by simp [maxLen]))) A k c ((be8 N).drop (8 - k)) rfl (HBS.out.alloc _) (by simp; omega) (by have := HB.out.size; simp; omega) ?_; intro v2 w2 hown2 hb2 hg2; have HO2 := Lib.hid hown2; have HB2 : Hid (Below w.heap.size w w2) := Lib.hid ((HB.out.alloc HB.out.size _).trans hb2); clear tok1 hown2 hb2 hg2 _t)))
      obtain ⟨A3, c3, e3, hb3, _⟩ := HO2.out.bs
      have hl : ([UInt8.ofNat n] ++ (be8 N).drop (8 - k)).length = k + 1 := by simp [be8]; omega
      rw [hl] at e3 hb3
      rw [show [UInt8.ofNat n] ++ (be8 N).drop (8 - k) = (be8 N).drop (8 - (k + 1)) from by rw [show 8 - (k + 1) = 7 - k by omega]; exact HX.out.symm] at hb3
      refine ⟨⟨k + 1, A3, c3, by omega, by go_num, e3, ?_, hb3, HB2.out⟩, by simp [intOf]; omega⟩
      have hn3 := HN2.out
      rw [HQ.out, show (n : Int) / 256 = ((n / 256 : Nat) : Int) from by omega, IntWalk.wrap64_in _ (by omega)]
    · obtain rfl : k = 8 := by omega
      clear h8
      go_wp2_with (fail)
      refine (refSeal A 8 c (be8 N) wo HBS.out (by decide)).mono ?_
      rintro e w2 ⟨A2, c2, rfl, hB2, hb2⟩
      have HP : Hid (RetS (bytesD N) w (.returned (.slice A2 (be8 N ++ be4 (Crc.sum 0 (be8 N))).length c2)) w2) := Lib.hid ⟨A2, c2, rfl, hB2, HB.out.trans (hb2.mono HB.out.size)⟩
      clear hB2 hb2
      go_wp2_with (fail)
      go_ret
      exact HP.out
theorem valD8 (y0 y1 y2 y3 y4 y5 y6 y7 : UInt8) : (1099511627776 < valD [y0, y1, y2, y3, y4, y5, y6, y7]) ∨ (y0 = 0 ∧ y1 = 0 ∧ y2.toNat ≤ 1) := by
  have k0 := y0.toNat_lt; have k1 := y1.toNat_lt; have k2 := y2.toNat_lt; have k3 := y3.toNat_lt
  have k4 := y4.toNat_lt; have k5 := y5.toNat_lt; have k6 := y6.toNat_lt; have k7 := y7.toNat_lt
  simp only [valD, List.foldl_cons, List.foldl_nil, ← UInt8.toNat_inj, UInt8.toNat_zero]
  omega
theorem len8 {l : List UInt8} (h : l.length = 8) : ∃ y0 y1 y2 y3 y4 y5 y6 y7, l = [y0, y1, y2, y3, y4, y5, y6, y7] := by
  rcases l with _ | ⟨a, _ | ⟨b, _ | ⟨c, _ | ⟨d, _ | ⟨e, _ | ⟨f, _ | ⟨g, _ | ⟨i, _ | ⟨j, r⟩⟩⟩⟩⟩⟩⟩⟩⟩ <;> simp at h
  exact ⟨a, b, c, d, e, f, g, i, rfl⟩
set_option maxHeartbeats 4000000 in
set_option maxRecDepth 100000 in
theorem refNumber15 (A : Option Addr) (n c : Nat) (l : List UInt8) (w : World) (hB : Bs w A n c l) : Calls Try.prog 11 #[.slice A n c] w fun e w' => e = .returned (.tuple #[.int .i64 (numD l).1, .int .i64 (numD l).2]) ∧ Below w.heap.size w w' := by
  have hlen := hB.len
  have HB := Lib.hid hB
  have HND : Hid (numD l = if l.length ≠ 12 then (0, 7) else if openOk l = false then (0, 8) else if 1099511627776 < valD (openGet l) then (0, 3) else ((valD (openGet l) : Int), 0)) := Lib.hid rfl
  clear hB
  go_enter Try.func11, Try.ntmps11
  by_cases h12 : n = 12
  · subst h12
    go_wp2_with (fail)
    refine (refOpen A 12 c l w HB.out).mono ?_
    rintro e w1 ⟨A1, c1, rfl, hB1, hb1⟩
    have HB1 := Lib.hid hb1
    have HBS := Lib.hid hB1
    clear hb1 hB1
    cases hok : openOk l
    · go_wp2_with (fail)
      go_ret2
      rw [HND.out, if_neg (by omega), if_pos hok]
      exact ⟨rfl, HB1.out⟩
    · have hl8 := openGet_len hok hlen
      obtain ⟨y0, y1, y2, y3, y4, y5, y6, y7, hy⟩ := len8 hl8
      have HND2 : Hid (numD l = if 1099511627776 < valD [y0, y1, y2, y3, y4, y5, y6, y7] then (0, 3) else ((valD [y0, y1, y2, y3, y4, y5, y6, y7] : Int), 0)) := Lib.hid (by rw [HND.out, if_neg (by omega), if_neg (by rw [hok]; decide), hy])
      rw [hl8] at HBS ⊢
      rw [hy] at HBS
      obtain ⟨b, o, rfl, _, hcell⟩ := HBS.out.at_ (by decide)
      have c0 : w1.cell? ⟨b, o, none⟩ = some (.int .u8 (y0.toNat : Int)) := hcell 0 y0 rfl
      have c1' : w1.cell? ⟨b, o + 1, none⟩ = some (.int .u8 (y1.toNat : Int)) := hcell 1 y1 rfl
      have c2' : w1.cell? ⟨b, o + 2, none⟩ = some (.int .u8 (y2.toNat : Int)) := hcell 2 y2 rfl
      have HC := Lib.hid hcell
      clear hcell hok hy hl8
      by_cases hz : y0 = 0 ∧ y1 = 0 ∧ y2.toNat ≤ 1
      · obtain ⟨rfl, rfl, hy2⟩ := hz
        rw [show ((0 : UInt8).toNat : Int) = 0 from rfl] at c0
        rw [show ((0 : UInt8).toNat : Int) = 0 from rfl] at c1'
        have g2 : decide ((1 : Int) < (y2.toNat : Int)) = false := by simp; omega
        have g2' : ¬ ((1 : Int) < (y2.toNat : Int)) := by omega
        obtain ⟨L, hL⟩ : ∃ L, L = [0, 0, y2, y3, y4, y5, y6, y7] := ⟨_, rfl⟩
        have hLL : L.length = 8 := by rw [hL]; rfl
        have hL0 : valD (L.take 2) = 0 := by rw [hL]; rfl
        have hLt : ∀ k, k ≤ 8 → valD (L.take k) < 256 ^ 6 := fun k hk => by
          have e : valD (L.take k) = valD ((L.take k).drop 2) := by
            rw [hL]
            have h : k = 0 ∨ k = 1 ∨ k = 2 ∨ k = 3 ∨ k = 4 ∨ k = 5 ∨ k = 6 ∨ k = 7 ∨ k = 8 := by omega
            rcases h with rfl | rfl | rfl | rfl | rfl | rfl | rfl | rfl | rfl <;> simp [valD]
          rw [e]
          refine Nat.lt_of_lt_of_le (valD_lt _) (Nat.pow_le_pow_right (by decide) ?_)
          rw [List.length_drop, List.length_take]; omega
        rw [← hL] at HND2 HC
        have HLT := Lib.hid hLt
        have HLL := Lib.hid hLL
        clear hL hLt hLL hy2
        go_wp2_with (fail)
        go_loopw [7, 6] (fun i s wr => ∃ k : Nat, 2 ≤ k ∧ k ≤ 8 ∧ i = .int .i64 k ∧ s = .int .i64 ((valD (L.take k) : Nat) : Int) ∧ wr = w1) (fun i _ _ => 8 - (intOf i).toNat)
        case atStart => exact ⟨2, by omega, by omega, rfl, by rw [hL0]; rfl, rfl⟩
        case round =>
          clear c0 c1' c2' g2 g2' hL0
          obtain ⟨k, hk2, hk, rfl, rfl, rfl⟩ := hrel
          by_cases h8 : k < 8
          · have hv := valD_take (l := L) (k := k) (by rw [HLL.out]; exact h8)
            have hlt := HLT.out k hk
            have hc := HC.out k (L.getD k 0) (by rw [List.getD_eq_getElem?_getD, List.getElem?_eq_getElem (by rw [HLL.out]; exact h8)]; rfl)
            obtain ⟨y, hy⟩ : ∃ y, y = L.getD k 0 := ⟨_, rfl⟩
            rw [← hy] at hc hv
            obtain ⟨V, hV⟩ : ∃ V, V = valD (L.take k) := ⟨_, rfl⟩
            rw [← hV] at hv hlt ⊢
            have hyl := y.toNat_lt
            have HV := Lib.hid hv
            have HVL : Hid (V < 281474976710656) := Lib.hid hlt
            have HYL := Lib.hid hyl
            have m1 : wrap64 (256 * (V : Int)) = ((256 * V : Nat) : Int) := by rw [IntWalk.wrap64_in _ (by omega)]; omega
            have m2 : wrap64 (y.toNat : Int) = (y.toNat : Int) := IntWalk.wrap64_in _ (by omega)
            clear hy hV hv hlt hyl
            go_wp2_with (fail)
            have h1 := HVL.out
            have h2 := HYL.out
            refine ⟨⟨k + 1, by omega, by omega, by go_num, ?_, trivial⟩, by simp [intOf]; omega⟩
            rw [HV.out, IntWalk.wrap64_in (256 * (V : Int) + (y.toNat : Int)) (by omega)]
            congr 1
            omega
          · obtain rfl : k = 8 := by omega
            clear h8
            rw [List.take_of_length_le (by rw [HLL.out]; exact Nat.le_refl _)]
            have hvl : valD L < 281474976710656 := by have := HLT.out 8 (by omega); rwa [List.take_of_length_le (by rw [HLL.out]; exact Nat.le_refl _)] at this
            obtain ⟨V, hV⟩ : ∃ V, V = valD L := ⟨_, rfl⟩
            rw [← hV] at HND2 hvl ⊢
            clear hV
            by_cases hbig : 1099511627776 < V
            · have e1 : decide ((1099511627776 : Int) < (V : Int)) = true := by simp; omega
              have e2 : (1099511627776 : Int) < (V : Int) := by omega
              clear hvl
              go_wp2_with (fail)
              go_ret2
              rw [HND2.out, if_pos hbig]
              exact ⟨rfl, HB1.out⟩
            · have e1 : decide ((1099511627776 : Int) < (V : Int)) = false := by simp; omega
              have e2 : ¬ ((1099511627776 : Int) < (V : Int)) := by omega
              clear hvl
              go_wp2_with (fail)
              go_ret2
              rw [HND2.out, if_neg hbig]
              exact ⟨rfl, HB1.out⟩
      · have hbig := (valD8 y0 y1 y2 y3 y4 y5 y6 y7).resolve_right hz
        have HNO : Hid (numD l = (0, 3)) := Lib.hid (by rw [HND2.out, if_pos hbig])
        have p0 : y0 = 0 ∨ ((y0.toNat : Int) != 0) = true := by
          by_cases h : y0 = 0
          · exact .inl h
          · exact .inr (by have : y0.toNat ≠ 0 := fun e => h (UInt8.toNat_inj.1 e); simp; omega)
        have p1 : y1 = 0 ∨ ((y1.toNat : Int) != 0) = true := by
          by_cases h : y1 = 0
          · exact .inl h
          · exact .inr (by have : y1.toNat ≠ 0 := fun e => h (UInt8.toNat_inj.1 e); simp; omega)
        clear HND2 HND HC hbig
        rcases p0 with rfl | g0
        · rw [show ((0 : UInt8).toNat : Int) = 0 from rfl] at c0
          rcases p1 with rfl | g1
          · rw [show ((0 : UInt8).toNat : Int) = 0 from rfl] at c1'
            have g2' : (1 : Int) < (y2.toNat : Int) := by
              by_cases h : y2.toNat ≤ 1
              · exact absurd ⟨rfl, rfl, h⟩ hz
              · omega
            have g2 : decide ((1 : Int) < (y2.toNat : Int)) = true := by simpa using g2'
            clear hz
            go_wp2_with (fail)
            go_ret2
            rw [HNO.out]
            exact ⟨rfl, HB1.out⟩
          · clear hz
            go_wp2_with (fail)
            go_ret2
            rw [HNO.out]
            exact ⟨rfl, HB1.out⟩
        · clear hz
          go_wp2_with (fail)
          go_ret2
          rw [HNO.out]
          exact ⟨rfl, HB1.out⟩
  · have d1 : ((n : Int) != 12) = true := by simp; omega
    go_wp2_with (fail)
    go_ret2
    rw [HND.out, if_pos (by omega)]
    exact ⟨rfl, Below.refl _ _⟩
end Go.Proofs.Ytolomfdommnklaa
