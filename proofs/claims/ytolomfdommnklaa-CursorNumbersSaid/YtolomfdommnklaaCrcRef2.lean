/- Layer 1: the document's Seal and Open, walked. -/
import Derived.Test.YtolomfdommnklaaCrcRef
namespace Go.Proofs.Ytolomfdommnklaa
open Go.RowKit

set_option maxRecDepth 100000 in
set_option maxHeartbeats 1000000 in
theorem refSeal (A : Option Addr) (n c : Nat) (l : List UInt8) (w : World) (hB : Bs w A n c l) (hn : n ≤ 140737488351232) :
    Calls Try.prog 38 #[.slice A n c] w (RetS (l ++ be4 (Crc.sum 0 l)) w) := by
  have HB := Lib.hid hB
  have HL : l.length ≤ n := by have := hB.len; omega
  have hs := Crc.sum_lt (s := 0) l (by omega)
  have tok1 : True := trivial
  have tok2 : True := trivial
  clear hB
  go_enter Try.func38, Try.ntmps38
  go_wp2_with (first
    | (at_builtin; have _t := tok1; go_loud ((refine wpList_app rfl (.tmp 3) (.tmp 4) 22 rfl w.heap.size 5 Try.underlying22 byteInfo _ [] rfl (Own.lit 5 w [] (Nat.le_refl _) (by simp [maxLen])) _ n c l rfl (HB.out.alloc _) (by simp; omega) (by simp) ?_; intro v1 w1 hown1 hb1 hg1; have b1 : Below w.heap.size w w1 := ((Below.refl _ _).alloc (Nat.le_refl _) _).trans hb1; clear tok1 hb1 hg1 _t))))
  refine (refSum A n c l w1 (HB.out.below b1)).mono ?_
  rintro e w2 ⟨rfl, rfl⟩
  go_wp2_with (fail)
  refine (refFour _ w1 hs).mono ?_
  rintro e w2 ⟨p, q, r, s, hbe, rfl, rfl⟩
  have HBE := Lib.hid hbe
  have HB1 := Lib.hid b1
  have HO := Lib.hid (hown1.alloc (.cells #[.int .u8 (p.toNat : Int), .int .u8 (q.toNat : Int), .int .u8 (r.toNat : Int), .int .u8 (s.toNat : Int)] 5))
  have hz := b1.size
  clear hbe b1 hown1
  go_wp2_with (first
    | (at_builtin; have _t := tok2; go_loud ((refine wpList_app rfl (.tmp 5) (.tmp 8) 22 rfl w.heap.size 5 Try.underlying22 byteInfo _ ([] ++ l) rfl HO.out _ 4 4 [p, q, r, s] rfl (Bs.lit w1 [p, q, r, s] _ _ _ rfl rfl rfl (by simp [maxLen])) (by simp; omega) (by simp; omega) ?_; intro v2 w2 hown2 hb2 hg2; have b2 := (HB1.out.alloc hz (.cells #[.int .u8 (p.toNat : Int), .int .u8 (q.toNat : Int), .int .u8 (r.toNat : Int), .int .u8 (s.toNat : Int)] 5)).trans hb2; clear tok2 hb2 hg2 _t))))
  go_ret
  have e : [] ++ l ++ [p, q, r, s] = l ++ be4 (Crc.sum 0 l) := by rw [HBE.out]; rfl
  rw [e] at hown2
  obtain ⟨A4, c4, rfl, hB4, _⟩ := hown2.bs
  exact ⟨A4, c4, rfl, hB4, b2⟩

theorem be4_num {x : Nat} (hx : x < 4294967296) (p q r s : UInt8) : be4 x = [p, q, r, s] ↔ (x : Int) = (p.toNat : Int) * 16777216 + q.toNat * 65536 + r.toNat * 256 + s.toNat := by
  have b0 := p.toNat_lt
  have b1 := q.toNat_lt
  have b2 := r.toNat_lt
  have b3 := s.toNat_lt
  constructor
  · intro h
    have h' : (be4 x).map UInt8.toNat = [p, q, r, s].map UInt8.toNat := by rw [h]
    simp [be4] at h'
    omega
  · intro h
    unfold be4
    simp only [List.cons.injEq, and_true]
    refine ⟨?_, ?_, ?_, ?_⟩ <;> (apply UInt8.toNat_inj.1; simp only [UInt8.toNat_ofNat']; omega)

set_option maxRecDepth 100000 in
set_option maxHeartbeats 1000000 in
theorem refOpen (A : Option Addr) (n c : Nat) (l : List UInt8) (w : World) (hB : Bs w A n c l) :
    Calls Try.prog 37 #[.slice A n c] w (RetBB (openOk l) (openGet l) w) := by
  have hlen := hB.len
  have hcm := hB.max
  have hle := hB.le
  by_cases h4 : n < 4
  · have e1 : openOk l = false := by unfold openOk; rw [decide_eq_false (by omega)]; rfl
    have e2 : openGet l = [] := by unfold openGet; rw [e1]; rfl
    rw [e1, e2]
    clear e1 e2 hlen hB
    go_enter Try.func37, Try.ntmps37
    go_wp2
    go_ret2
    exact ⟨none, 0, rfl, Bs.none_ _, Below.refl _ _⟩
  · obtain ⟨b, o, rfl, hb, _⟩ := hB.at_ (by omega)
    have HT := Lib.hid (hB.take (j := n - 4) (by omega))
    have hd := hB.drop (i := n - 4) (by omega)
    rw [if_neg (by omega), Option.map_some, Addr.add_lit] at hd
    have ho : openOk l = (be4 (Crc.sum 0 (l.take (n - 4))) == l.drop (n - 4)) := by
      unfold openOk
      rw [decide_eq_true (by omega), hlen]; rfl
    have hs := Crc.sum_lt (s := 0) (l.take (n - 4)) (by omega)
    have HG : Hid (openOk l = true → openGet l = l.take (n - 4)) := fun h => by unfold openGet; rw [h, hlen]; rfl
    have HG2 : Hid (openOk l = false → openGet l = []) := fun h => by unfold openGet; rw [h]; rfl
    obtain ⟨k, hk⟩ : ∃ k, n = k + 4 := ⟨n - 4, by omega⟩
    subst hk
    rw [show k + 4 - 4 = k from by omega] at *
    rw [show k + 4 - k = 4 from by omega] at hd
    obtain ⟨p, q, r, s, hdr⟩ := four hd.len
    rw [hdr] at hd ho
    have HD := Lib.hid hd
    have CS := fun W h => refSum (some ⟨b, o, none⟩) k c (l.take k) W h
    have hnum := be4_num hs p q r s
    obtain ⟨x, hx⟩ : ∃ x, x = Crc.sum 0 (l.take k) := ⟨_, rfl⟩
    rw [← hx] at CS hnum ho hs
    have CN := fun W h => refNumber (some ⟨b, o + k, none⟩) (c - k) p q r s W h
    obtain ⟨y, hy⟩ : ∃ y : Int, y = (p.toNat : Int) * 16777216 + q.toNat * 65536 + r.toNat * 256 + s.toNat := ⟨_, rfl⟩
    rw [← hy] at CN hnum
    have hxy : ((x : Int) != y) = !(openOk l) := by
      rw [ho]
      by_cases h : (x : Int) = y
      · (have h2 : (be4 x == [p, q, r, s]) = true := beq_iff_eq.2 (hnum.2 h)); rw [h2, h]; exact bne_self_eq_false y
      · have h2 : (be4 x == [p, q, r, s]) = false := beq_eq_false_iff_ne.2 fun h' => h (hnum.1 h')
        rw [h2, Bool.not_false]
        exact bne_iff_ne.2 h
    have HCS := Lib.hid CS
    have HCN := Lib.hid CN
    have HXY := Lib.hid hxy
    have e0 : (k : Int) ≤ (k : Int) + 4 := by omega
    have e9 : ¬ c = k := by omega
    have e7 : IntKind.i64.wrap (x : Int) = (x : Int) := IntWalk.i64_in _ (by omega)
    clear hB hd ho hlen hdr hx hy hnum CS CN hxy
    cases hok : openOk l with
    | false =>
      have hne := HXY.out
      rw [hok] at hne
      rw [HG2.out hok]
      clear hok
      go_enter Try.func37, Try.ntmps37
      go_wp2_with (fail)
      go_quiet ((first
        | (go_at_call 54; go_loud (exact Calls.quiet_sym (HCS.out _ (HT.out.drewN _))))
        | (go_at_call 55; go_loud (exact Calls.quiet_of (HCN.out _ (HD.out.drewN _))))))
      go_wp2
      go_ret2
      exact ⟨none, 0, rfl, Bs.none_ _, drawN_below (Below.refl _ _) _⟩
    | true =>
      have hne := HXY.out
      rw [hok] at hne
      rw [HG.out hok]
      have hlk : Hid ((l.take k).length = k) := HT.out.len
      clear hok
      go_enter Try.func37, Try.ntmps37
      go_wp2_with (fail)
      go_quiet ((first
        | (go_at_call 54; go_loud (exact Calls.quiet_sym (HCS.out _ (HT.out.drewN _))))
        | (go_at_call 55; go_loud (exact Calls.quiet_of (HCN.out _ (HD.out.drewN _))))))
      go_wp2
      go_ret2
      refine ⟨some ⟨b, o, none⟩, c, by rw [hlk.out]; rfl, ?_, drawN_below (Below.refl _ _) _⟩
      rw [hlk.out]
      exact HT.out.drewN _
end Go.Proofs.Ytolomfdommnklaa
