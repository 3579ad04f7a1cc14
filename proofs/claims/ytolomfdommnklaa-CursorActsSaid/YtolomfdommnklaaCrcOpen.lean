/- Layer 1: Open, walked. -/
import Derived.Test.YtolomfdommnklaaCrcSeal
import Derived.Test.YtolomfdommnklaaBytesEqual
namespace Go.Proofs.Ytolomfdommnklaa
open Go.RowKit

/-- what Open answers -/
def openOk (l : List UInt8) : Bool := decide (4 ≤ l.length) && (be4 (Crc.sum 0 (l.take (l.length - 4))) == l.drop (l.length - 4))
def openGet (l : List UInt8) : List UInt8 := if openOk l then l.take (l.length - 4) else []
/-- bytes and a bool, what was there left -/
def RetBB (b : Bool) (l : List UInt8) (w : World) (e : Ending) (w' : World) : Prop :=
  ∃ A c, e = .returned (.tuple #[.slice A l.length c, .bool b]) ∧ Bs w' A l.length c l ∧ Below w.heap.size w w'

set_option maxRecDepth 100000 in
set_option maxHeartbeats 1000000 in
theorem crcOpen (A : Option Addr) (n c : Nat) (l : List UInt8) (w : World) (hB : Bs w A n c l) (hN : n ≤ 140737488351232) :
    Calls Try.prog 36 #[.slice A n c] w (RetBB (openOk l) (openGet l) w) := by
  have hlen := hB.len
  have hcm := hB.max
  have hle := hB.le
  by_cases h4 : n < 4
  · have e1 : openOk l = false := by unfold openOk; rw [decide_eq_false (by omega)]; rfl
    have e2 : openGet l = [] := by unfold openGet; rw [e1]; rfl
    rw [e1, e2]
    clear e1 e2 hlen hB
    go_enter Try.func36, Try.ntmps36
    go_wp2
    go_ret2
    exact ⟨none, 0, rfl, Bs.none_ _, Below.refl _ _⟩
  · obtain ⟨b, o, rfl, hb, _⟩ := hB.at_ (by omega)
    have HT := Lib.hid (hB.take (j := n - 4) (by omega))
    have hd := hB.drop (i := n - 4) (by omega)
    rw [if_neg (by omega), Option.map_some, Addr.add_lit] at hd
    have HD := Lib.hid hd
    have HB := Lib.hid hB
    have HL := Lib.hid hlen
    have ho : openOk l = (be4 (Crc.sum 0 (l.take (n - 4))) == l.drop (n - 4)) := by
      unfold openOk
      rw [decide_eq_true (by omega), hlen]; rfl
    have HO := Lib.hid ho
    have HG : Hid (openOk l = true → openGet l = l.take (n - 4)) := fun h => by unfold openGet; rw [h, hlen]; rfl
    have HG2 : Hid (openOk l = false → openGet l = []) := fun h => by unfold openGet; rw [h]; rfl
    obtain ⟨k, hk⟩ : ∃ k, n = k + 4 := ⟨n - 4, by omega⟩
    subst hk
    rw [show k + 4 - 4 = k from by omega] at *
    clear hB hd ho hlen
    have hN2 : k ≤ 140737488355328 := by omega
    obtain ⟨Z, HZ, hzl, hmk⟩ := mk_zeros (k : Int) k rfl hN2
    have HZL := Lib.hid hzl
    have HMK := Lib.hid hmk
    clear hzl hmk
    go_enter Try.func36, Try.ntmps36
    go_wp2_with (fail)
    refine (crcSumBytes _ _ _ _ w HT.out).mono ?_
    rintro e w2 ⟨rfl, hb2⟩
    have HB2 := Lib.hid hb2
    have hsz2 := hb2.size
    clear hb2
    generalize hbe : be4 (Crc.sum 0 (l.take k)) = be
    rw [hbe] at HO
    have hbl : be.length = 4 := by rw [← hbe]; rfl
    clear hbe
    obtain ⟨p, q, r, s, rfl⟩ := four hbl
    clear hbl
    rw [show (u8s [p, q, r, s]).toArray = #[.int .u8 (p.toNat : Int), .int .u8 (q.toNat : Int), .int .u8 (r.toNat : Int), .int .u8 (s.toNat : Int)] from rfl]
    go_wp2_with (fail)
    have X1 : Hid (∀ m, Bs ((w2.alloc (.cells #[.int .u8 (p.toNat : Int), .int .u8 (q.toNat : Int), .int .u8 (r.toNat : Int), .int .u8 (s.toNat : Int)] 95)).drewN m) (some ⟨w2.heap.size, 0, none⟩) 4 4 [p, q, r, s]) := Lib.hid (fun m => (Bs.lit w2 [p, q, r, s] _ _ _ rfl rfl rfl (by simp [maxLen])).drewN m)
    have X2 : Hid (∀ m, Bs ((w2.alloc (.cells #[.int .u8 (p.toNat : Int), .int .u8 (q.toNat : Int), .int .u8 (r.toNat : Int), .int .u8 (s.toNat : Int)] 95)).drewN m) (some ⟨b, o + k, none⟩) (k + 4 - k) (c - k) (l.drop k)) := Lib.hid (fun m => ((HD.out.below HB2.out).alloc _).drewN m)
    rw [show k + 4 - k = 4 from by omega] at X2
    have e0 : (k : Int) ≤ (k : Int) + 4 := by omega
    have e9 : ¬ c = k := by omega
    have CE : ∀ W, Bs W (some ⟨w2.heap.size, 0, none⟩) 4 4 [p, q, r, s] → Bs W (some ⟨b, o + k, none⟩) 4 (c - k) (l.drop k) → Calls Try.prog 53 #[.slice (some ⟨w2.heap.size, 0, none⟩) 4 4, .slice (some ⟨b, o + k, none⟩) 4 (c - k)] W fun e w' => e = .returned (.bool (openOk l)) ∧ W = w' := by
      intro W h1 h2
      rw [HO.out]
      exact bytesEqual _ _ _ _ _ _ _ _ W h1 h2
    have HCE := Lib.hid CE
    clear CE
    cases hok : openOk l with
    | false =>
      rw [hok] at HCE
      have HOK := Lib.hid hok
      clear hok HO
      go_quiet ((go_at_call 53; go_loud (exact Calls.quiet_sym (HCE.out _ (X1.out _) (X2.out _)))))
      go_wp2
      go_ret2
      rw [HOK.out, HG2.out HOK.out]
      exact ⟨none, 0, rfl, Bs.none_ _, drawN_below (HB2.out.trans (((Below.refl _ w2).alloc (Nat.le_refl _) _).mono hsz2)) nq⟩
    | true =>
      rw [hok] at HCE
      have HOK := Lib.hid hok
      clear hok HO
      go_quiet ((go_at_call 53; exact Calls.quiet_sym (HCE.out _ (X1.out _) (X2.out _))))
      have hw3 : Hid (Below w.heap.size w ((w2.alloc (.cells #[.int .u8 (p.toNat : Int), .int .u8 (q.toNat : Int), .int .u8 (r.toNat : Int), .int .u8 (s.toNat : Int)] 95)).drewN nq)) := Lib.hid (drawN_below (HB2.out.trans (((Below.refl _ w2).alloc (Nat.le_refl _) _).mono hsz2)) nq)
      generalize (w2.alloc (.cells #[.int .u8 (p.toNat : Int), .int .u8 (q.toNat : Int), .int .u8 (r.toNat : Int), .int .u8 (s.toNat : Int)] 95)).drewN nq = w3 at hw3 ⊢
      have hmk := HMK.out
      have hsz3 := hw3.out.size
      go_wp2_with (with_reducible show wpList _ _ _ _ _ _; refine wpList_cpyTo rfl (.tmp 24) (.tmp 25) 22 22 rfl 5 Try.underlying22 byteInfo w3.heap.size 0 _ _ _ rfl Z 5 (heap_alloc_new w3 _) (some ⟨b, o, none⟩) (k + 4) k c (l.take k) rfl ((HT.out.below hw3.out).alloc _) (fun _ => rfl) (by omega) (by rw [HZL.out]; omega) ?_; intro w1 hw1 hb1)
      go_ret2
      rw [HOK.out, HG.out HOK.out]
      have e : List.take 0 Z ++ (l.take k ++ List.drop (0 + k) Z) = l.take k := by
        rw [List.take_zero, List.nil_append, List.drop_of_length_le (by rw [HZL.out]; omega), List.append_nil]
      have hw := hw1.out
      rw [e] at hw
      have hlk : (l.take k).length = k := HT.out.len
      refine ⟨some ⟨w3.heap.size, 0, none⟩, k, by rw [hlk]; rfl, ?_, hw3.out.trans ((((Below.refl _ w3).alloc (Nat.le_refl _) _).trans hb1).mono hsz3)⟩
      have := Bs.block hw hlk (by unfold maxLen; omega)
      rwa [hlk]
end Go.Proofs.Ytolomfdommnklaa
